"""The errors that the program raises."""


class FieldError(ValueError):
    """The base class of all errors of the program."""


class InvalidSpins(FieldError):
    """Spins break the rules for their vertices, fields or edges."""


class InvalidOrder(FieldError):
    """A list is no order of the vertices."""


class HasField(FieldError):
    """A field is not 0 where all of them have to be 0."""


class NotFerro(FieldError):
    """A coupling is negative where none may be negative."""


class InvalidPlane(FieldError):
    """A plane graph breaks the rules for its edges, turning orders or faces."""


class InvalidWeight(FieldError):
    """A weight, a coupling or a number is not one that may stand there."""


class InvalidBox(FieldError):
    """A box, an interval or a width breaks its rules."""


class TooLarge(FieldError):
    """There is more of something than the program takes."""


class PolynomialSyntaxError(FieldError):
    """A text is not the text of a polynomial."""


class CaseSyntaxError(FieldError):
    """A text is not the text of spins, or no case."""
