"""Texts of spins, and cases: such texts with questions behind them."""

from spinfield.boxes import circle_count
from spinfield.clusters import cluster_polynomial
from spinfield.correlations import pair_by_transfer
from spinfield.errors import CaseSyntaxError, InvalidSpins
from spinfield.fractions import divide, fraction
from spinfield.polynomials import DIGITS, format_polynomial, row_at, value
from spinfield.spins import Spins
from spinfield.transfer import least_by_transfer, least_width, sum_by_transfer

MOST_DIGITS = 4


def format_spins(spins):
    """Returns the text of spins."""
    lines = [("spins",) + spins.fields]
    for edge in spins.edges:
        lines.append(("edge",) + edge)
    return "".join([" ".join([str(word) for word in line]) + "\n" for line in lines])


def parse_spins(text):
    """Returns the spins that a text writes. Raises CaseSyntaxError if it is not the text of spins."""
    spins, behind = _read_spins(_lines(text))
    if behind:
        raise CaseSyntaxError("a line that is not one of spins")
    return spins


def _lines(text):
    """Returns the list of the lines of a text. Raises CaseSyntaxError if the last one does not end."""
    lines = text.split("\n")
    if lines.pop() != "":
        raise CaseSyntaxError("the last line has no end")
    return lines


def _read_spins(lines):
    """Returns the pair of the spins that lines begin with and of the list of the lines behind them."""
    words = lines[0].split(" ") if lines else []
    if words[:1] != ["spins"]:
        raise CaseSyntaxError("no line with the fields")
    fields = [_read_number(word) for word in words[1:]]
    many = 1
    while many < len(lines) and lines[many].split(" ")[0] == "edge":
        many += 1
    edges = [_read_edge(line) for line in lines[1:many]]
    try:
        return Spins(fields, edges), lines[many:]
    except InvalidSpins:
        raise CaseSyntaxError("fields or edges that no spins have") from None


def _read_edge(line):
    """Returns the triple of an edge that a line writes. Raises CaseSyntaxError."""
    words = line.split(" ")
    if len(words) != 4:
        raise CaseSyntaxError("an edge without two vertices and a coupling")
    return _read_number(words[1]), _read_number(words[2]), _read_number(words[3])


def _read_number(word):
    """Returns the integer that a word writes. Raises CaseSyntaxError."""
    digits = word[1:] if word.startswith("-") else word
    if not 1 <= len(digits) <= MOST_DIGITS or not all(sign in DIGITS for sign in digits):
        raise CaseSyntaxError("not a number of few digits")
    number = int(word)
    if str(number) != word:
        raise CaseSyntaxError("a number with a sign or a zero too many")
    return number


class Case:
    """Spins, and what several questions about them have in common."""

    def __init__(self, spins):
        self.spins = spins
        found = least_width(spins)
        self.width = found[0]
        self.order = list(found[1])
        self.total = sum_by_transfer(spins, self.order)
        self.pairs = {}

    def pair(self, u, v):
        """Returns the pair sum of two vertices."""
        if (u, v) not in self.pairs:
            self.pairs[(u, v)] = pair_by_transfer(self.spins, self.order, u, v)
        return self.pairs[(u, v)]


def _answer_sum(case, _):
    """Returns the text of the partition polynomial."""
    return format_polynomial(case.total)


def _answer_clusters(case, _):
    """Returns the text of the cluster polynomial."""
    return format_polynomial(cluster_polynomial(case.spins))


def _answer_pair(case, words):
    """Returns the text of the pair sum of two vertices. Raises CaseSyntaxError."""
    return format_polynomial(case.pair(_read_vertex(case, words[0]), _read_vertex(case, words[1])))


def _read_vertex(case, word):
    """Returns the vertex that a word writes. Raises CaseSyntaxError."""
    vertex = _read_number(word)
    if not 0 <= vertex < len(case.spins.fields):
        raise CaseSyntaxError("a vertex that is not there")
    return vertex


def _answer_least(case, _):
    """Returns the text of the least cost and of the least state with it."""
    least, state = least_by_transfer(case.spins, case.order)
    return " ".join([str(number) for number in (least,) + state])


def _answer_width(case, _):
    """Returns the text of the width."""
    return str(case.width)


def _answer_value(case, words):
    """Returns the text of the value of the partition polynomial. Raises CaseSyntaxError."""
    x, y = _read_fraction(words[0]), _read_fraction(words[1])
    if x == (0, 1) or y == (0, 1):
        raise CaseSyntaxError("a fraction is 0")
    return _format_fraction(value(case.total, x, y))


def _read_fraction(word):
    """Returns the fraction that a word writes. Raises CaseSyntaxError."""
    parts = word.split("/")
    if len(parts) != 2:
        raise CaseSyntaxError("not a numerator and a denominator")
    numerator, denominator = _read_number(parts[0]), _read_number(parts[1])
    if denominator < 1 or fraction(numerator, denominator) != (numerator, denominator):
        raise CaseSyntaxError("a fraction is not in lowest terms")
    return numerator, denominator


def _read_above_zero(word):
    """Returns the fraction above 0 that a word writes. Raises CaseSyntaxError."""
    found = _read_fraction(word)
    if found[0] <= 0:
        raise CaseSyntaxError("a fraction is not above 0")
    return found


def _format_fraction(number):
    """Returns the text of a fraction."""
    return f"{number[0]}/{number[1]}"


def _answer_circle(case, words):
    """Returns the text of the numbers of roots on the unit circle and of all powers of y. Raises CaseSyntaxError."""
    row = row_at(case.total, _read_above_zero(words[0]))
    return f"{circle_count(row)} {len(row) - 1}"


def _answer_correlation(case, words):
    """Returns the text of the correlation of two vertices. Raises CaseSyntaxError."""
    u, v = _read_vertex(case, words[0]), _read_vertex(case, words[1])
    x, y = _read_above_zero(words[2]), _read_above_zero(words[3])
    return _format_fraction(divide(value(case.pair(u, v), x, y), value(case.total, x, y)))


ANSWERS = {
    "sum": _answer_sum,
    "clusters": _answer_clusters,
    "pair": _answer_pair,
    "least": _answer_least,
    "width": _answer_width,
    "value": _answer_value,
    "circle": _answer_circle,
    "correlation": _answer_correlation,
}

# How many words each question has behind its name.
WORDS = {"sum": 0, "clusters": 0, "pair": 2, "least": 0, "width": 0, "value": 2, "circle": 1, "correlation": 4}


def answer_case(text):
    """Returns the answers to a case, a text. Raises CaseSyntaxError."""
    spins, questions = _read_spins(_lines(text))
    case = Case(spins)
    answers = {}
    for question in questions:
        if question not in answers:
            answers[question] = _answer(case, question)
    return "".join([answers[question] + "\n" for question in questions])


def _answer(case, question):
    """Returns the answer to a question, a line. Raises CaseSyntaxError."""
    words = question.split(" ")
    name = words[0]
    if name not in ANSWERS or len(words) - 1 != WORDS[name]:
        raise CaseSyntaxError("a line that is no question")
    answer = ANSWERS[name]
    return answer(case, words[1:])
