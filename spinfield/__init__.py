"""Spinfield: spins and dimers on small graphs, in exact polynomials."""
