"""Points 40 and 41, and spinfield/cases.py."""

import re
import unittest
from fractions import Fraction
from itertools import permutations, product

from helper import (
    LARGEST_PAIRS, exact, largest, plain_cluster_polynomial, plain_sum, plain_value, plain_width, samples, timed,
)
from spinfield.boxes import circle_count
from spinfield.cases import answer_case, format_spins, parse_spins
from spinfield.correlations import correlation, pair_sum
from spinfield.errors import CaseSyntaxError
from spinfield.polynomials import format_polynomial, row_at
from spinfield.spins import Spins, all_states, cost, sum_by_states

NUMBER = "(?:0|-?[1-9][0-9]{0,3})"
SPINS = re.compile(rf"spins((?: {NUMBER})+)\n((?:edge {NUMBER} {NUMBER} {NUMBER}\n)*)")
FRACTION = rf"({NUMBER})/({NUMBER})"
QUESTION = re.compile(
    rf"(sum|clusters|least|width)|(pair) ({NUMBER}) ({NUMBER})|(value) {FRACTION} {FRACTION}|(circle) {FRACTION}"
    rf"|(correlation) ({NUMBER}) ({NUMBER}) {FRACTION} {FRACTION}"
)


def plain_parts(text):
    """The fields, the edges and the text behind them, or None, straight from points 8 and 40."""
    found = SPINS.match(text)
    if not found:
        return None
    fields = [int(word) for word in found[1].split()]
    edges = [tuple(map(int, line.split(" ")[1:])) for line in found[2].split("\n")[:-1]]
    pairs = [edge[:2] for edge in edges]
    right = 1 <= len(fields) <= 12 and len(edges) <= 24 and all(-9 <= field <= 9 for field in fields)
    right = right and all(0 <= u < v < len(fields) and -9 <= j <= 9 and j != 0 for u, v, j in edges)
    right = right and pairs == sorted(set(pairs))
    return (fields, edges, text[found.end():]) if right else None


def is_question(line, count):
    """True for a question about so many vertices, straight from point 41."""
    found = QUESTION.fullmatch(line)
    if not found:
        return False
    words = [word for word in found.groups() if word is not None]
    name, numbers = words[0], [int(word) for word in words[1:]]
    vertices = numbers[:2] if name in ("pair", "correlation") else []
    fractions = list(zip(*[iter(numbers[len(vertices):])] * 2))
    if not all(0 <= vertex < count for vertex in vertices):
        return False
    for n, d in fractions:
        if d < 1 or exact(Fraction(n, d)) != (n, d) or n == 0 or (n < 0 and name != "value"):
            return False
    return True


def is_case(text):
    parts = plain_parts(text)
    if parts is None:
        return False
    lines = parts[2].split("\n")
    return lines[-1] == "" and all(is_question(line, len(parts[0])) for line in lines[:-1])


def changed(text, signs):
    """All texts with one sign put in, left out or replaced, and those with two neighbours exchanged."""
    for place in range(len(text) + 1):
        for sign in signs:
            yield text[:place] + sign + text[place:]
            if place < len(text):
                yield text[:place] + sign + text[place + 1:]
        yield text[:place] + text[place + 1:]
        yield text[:place] + text[place + 1:place + 2] + text[place:place + 1] + text[place + 2:]


SIGNS = "0129 -+\n/.\ts\r_ex\u0661\u00b2\u00a0\x0b\u2028"

TEXTS = [
    "spins 0\n",
    "spins -9 9\n",
    "spins 0 1\nedge 0 1 2\n",
    "spins 1 0 -4\nedge 0 1 -9\nedge 0 2 9\nedge 1 2 1\n",
    "spins 0 0 0 0 0 0 0 0 0 0 0 5\nedge 0 10 1\nedge 2 11 -1\nedge 10 11 3\n",
]


class SpinTexts(unittest.TestCase):
    def refuse(self, text):
        with self.subTest(text=text), self.assertRaises(CaseSyntaxError):
            parse_spins(text)
        with self.subTest(text=text), self.assertRaises(CaseSyntaxError):
            answer_case(text)

    def check(self, text):
        """Reads it just if it is the text of spins."""
        parts = plain_parts(text)
        if parts is None or parts[2]:
            with self.assertRaises(CaseSyntaxError, msg=repr(text)):
                parse_spins(text)
            return False
        found = parse_spins(text)
        self.assertEqual((found.fields, found.edges), (tuple(parts[0]), tuple(parts[1])))
        self.assertEqual(format_spins(found), text)
        return True

    def test_written(self):
        self.assertEqual(format_spins(Spins([0], [])), "spins 0\n")
        self.assertEqual(format_spins(Spins([0, 1], [(0, 1, 2)])), "spins 0 1\nedge 0 1 2\n")
        self.assertEqual(
            format_spins(Spins([1, 0, -4], [(0, 1, -9), (0, 2, 9), (1, 2, 1)])), TEXTS[3],
        )

    def test_read_again(self):
        for spins in samples() + [largest(True), largest(False)]:
            text = format_spins(spins)
            self.assertIs(type(text), str)
            again = parse_spins(text)
            self.assertIs(type(again), Spins)
            self.assertEqual((again.fields, again.edges), (spins.fields, spins.edges))
            self.assertTrue(self.check(text))

    def test_read(self):
        for text in TEXTS:
            self.assertTrue(self.check(text))

    def test_each_small_change(self):
        outcomes = [self.check(other) for text in TEXTS for other in changed(text, SIGNS)]
        self.assertGreater(outcomes.count(True), 50)
        self.assertGreater(outcomes.count(False), 5000)

    def test_spaces_line_feeds_and_words(self):
        for text in (
            "", "\n", " ", "spins", "spins\n", "spins \n", "spins 0", "spins 0\n\n", "\nspins 0\n", " spins 0\n", "spins  0\n",
            "spins 0 \n", "spins 0\r\n", "spins 0\x0b", "spins\n0\n", "spins\t0\n", "Spins 0\n", "spin 0\n", "0 0\n",
            "spins 0 0\nedge 0 1 1", "spins 0 0\nedge 0 1 1\n\n", "spins 0 0\n\nedge 0 1 1\n", "spins 0 0\nedge 0 1\n",
            "spins 0 0\nedge 0 1 1 1\n", "spins 0 0\nedge  0 1 1\n", "spins 0 0\nedge 0 1 1 \n", "spins 0 0\nedge\n",
            "spins 0 0\nedges 0 1 1\n", "spins 0 0\nEdge 0 1 1\n", "spins 0 0\nedge 0 1 x\n", "spins 0 0 edge 0 1 1\n",
            "edge 0 1 1\nspins 0 0\n", "edge 0 1 1\n", "spins 0 0\nspins 0 0\n", "spins 0 0\nspins 0 0\nedge 0 1 1\n",
        ):
            self.refuse(text)

    def test_numbers(self):
        for word in (
            "00", "01", "-0", "+1", "-01", "--1", "1-", "-", "1.0", "1e0", "0x1", "1_0", "\u0661", "\uff11", "\u00b2",
            "10", "-10", "00001", "10000", "99999", "-10000", "1234567890" * 500, "", " ", "True", "None",
        ):
            self.refuse(f"spins {word}\n")
            self.refuse(f"spins 0 {word} 0\n")
            for place in range(3):
                words = ["0", "1", "1"]
                words[place] = word
                self.refuse("spins 0 0 0 0\nedge " + " ".join(words) + "\n")

    def test_spins_that_are_refused(self):
        for text in (
            "spins 0 0\nedge 0 1 0\n", "spins 0 0\nedge 1 0 1\n", "spins 0 0\nedge 0 0 1\n", "spins 0 0\nedge 0 2 1\n",
            "spins 0 0\nedge -1 1 1\n", "spins 0 0\nedge 0 1 10\n", "spins 0 0\nedge 0 1 -10\n", "spins 10\n",
            "spins" + " 0" * 13 + "\n", "spins 0 0 0\nedge 0 1 1\nedge 0 1 1\n", "spins 0 0 0\nedge 0 2 1\nedge 0 1 1\n",
            "spins 0 0 0\nedge 1 2 1\nedge 0 1 1\n", "spins 9999\n",
        ):
            self.refuse(text)
        lines = [f"edge {u} {v} 1\n" for u in range(12) for v in range(u + 1, 12)]
        self.assertTrue(self.check("spins" + " 0" * 12 + "\n" + "".join(lines[:24])))
        self.refuse("spins" + " 0" * 12 + "\n" + "".join(lines[:25]))

    def test_lines_exchanged_or_repeated(self):
        text = TEXTS[3]
        lines = text.splitlines(keepends=True)
        for order in permutations(lines):
            self.assertIs(self.check("".join(order)), list(order) == lines)
        for many in range(len(lines)):
            self.check("".join(lines[:many] + lines[many:many + 1] + lines[many:]))
            self.refuse("".join(lines[:many + 1] + lines[many:many + 1] + lines[many + 1:]))

    def test_a_question_is_no_line_of_spins(self):
        for question in ("sum", "least", "width", "pair 0 1"):
            with self.assertRaises(CaseSyntaxError):
                parse_spins(f"spins 0 1\nedge 0 1 2\n{question}\n")


def plain_answer(fields, edges, question):
    """The answer to a question, as the document tells it."""
    spins = Spins(fields, edges)
    words = question.split(" ")
    points = [tuple(map(int, word.split("/"))) for word in words if "/" in word]
    total = plain_sum(fields, edges)
    if words[0] == "sum":
        return format_polynomial(total)
    if words[0] == "clusters":
        return format_polynomial(plain_cluster_polynomial(len(fields), edges))
    if words[0] == "pair":
        return format_polynomial(pair_sum(spins, int(words[1]), int(words[2])))
    if words[0] == "least":
        least, state = min((cost(spins, state), state) for state in all_states(spins))
        return " ".join(map(str, (least, *state)))
    if words[0] == "width":
        return str(min(plain_width(edges, order) for order in permutations(range(len(fields)))))
    if words[0] == "value":
        found = exact(plain_value(total, *points))
    elif words[0] == "circle":
        row = row_at(total, points[0])
        return f"{circle_count(row)} {len(row) - 1}"
    else:
        found = correlation(spins, int(words[1]), int(words[2]), *points)
    return f"{found[0]}/{found[1]}"


QUESTIONS = [
    "sum", "clusters", "least", "width", "pair 0 0", "pair 0 1", "pair 1 0", "value 1/1 1/1", "value -1/2 3/1",
    "value 2/3 -5/7", "circle 1/1", "circle 1/2", "circle 7/3", "correlation 0 1 1/2 1/1", "correlation 1 1 2/3 4/1",
]


class Cases(unittest.TestCase):
    def test_of_the_interface(self):
        self.assertEqual(
            answer_case("spins 0 1\nedge 0 1 2\nsum\nleast\n"), "1 + x*y^2 + x^2*y + x^3*y\n0 0 0\n",
        )

    def test_worked_out_by_hand(self):
        text = "spins 0 0\nedge 0 1 1\n"
        answers = [
            ("sum", "1 + y^2 + 2*x*y"), ("clusters", "x*y + x^2"), ("pair 0 1", "1 + y^2 - 2*x*y"),
            ("pair 1 1", "1 + y^2 + 2*x*y"), ("least", "0 0 0"), ("width", "1"), ("value 1/2 1/1", "3/1"),
            ("value -2/1 1/1", "-2/1"), ("value -1/1 1/1", "0/1"), ("circle 1/2", "2 2"), ("circle 2/1", "0 2"),
            ("circle 1/1", "1 2"), ("correlation 0 1 1/2 1/1", "1/3"), ("correlation 0 1 2/1 1/1", "-1/3"),
            ("correlation 0 0 2/1 3/1", "1/1"), ("correlation 1 0 1/1 1/1", "0/1"),
        ]
        for question, answer in answers:
            with self.subTest(question=question):
                self.assertEqual(answer_case(f"{text}{question}\n"), answer + "\n")
        whole = answer_case(text + "".join(question + "\n" for question, _ in answers))
        self.assertEqual(whole, "".join(answer + "\n" for _, answer in answers))
        self.assertEqual(answer_case("spins -3\nleast\nwidth\n"), "-3 1\n0\n")
        self.assertEqual(answer_case("spins 0 0 0\nedge 0 1 -1\nleast\nclusters\n"), "-1 0 1 0\nx^2*y + x^3\n")

    def test_no_questions(self):
        for text in TEXTS:
            self.assertEqual(answer_case(text), "")

    def test_each_kind_for_several_spins(self):
        for spins in samples():
            if 2 <= len(spins.fields) <= 6 and len(spins.edges) <= 9:
                text = format_spins(spins)
                expected = [plain_answer(list(spins.fields), list(spins.edges), question) for question in QUESTIONS]
                for question, answer in zip(QUESTIONS, expected):
                    with self.subTest(spins=text, question=question):
                        self.assertEqual(answer_case(f"{text}{question}\n"), answer + "\n")
                whole = text + "".join(question + "\n" for question in QUESTIONS + QUESTIONS[::-1])
                self.assertEqual(answer_case(whole), "".join(answer + "\n" for answer in expected + expected[::-1]))

    def test_several_of_one_kind(self):
        text = "spins 1 -2\nedge 0 1 3\n"
        for question in QUESTIONS:
            once = answer_case(f"{text}{question}\n")
            self.assertEqual(answer_case(text + f"{question}\n" * 4), once * 4)

    def test_numbers_at_their_bounds_and_behind_them(self):
        text = "spins 0 1 2\nedge 0 1 2\n"
        for question in (
            "value 9999/1 1/9999", "value -9999/1 -1/9999", "value 9999/9998 -9998/9999", "circle 9999/1",
            "circle 1/9999", "correlation 2 0 9999/1 1/9999", "correlation 0 2 1/1 9998/9999", "pair 2 2", "pair 0 2",
        ):
            self.assertTrue(is_question(question, 3))
            self.assertEqual(answer_case(f"{text}{question}\n"), plain_answer([0, 1, 2], [(0, 1, 2)], question) + "\n")
        for question in (
            "pair 3 0", "pair 0 3", "pair -1 0", "pair 0 -1", "pair 0 00", "pair 0 01", "pair 0 -0", "pair 0 +1",
            "pair 0", "pair", "pair 0 1 2", "pair 0  1", "pair 0/1 1", "pair 9999 0", "pair 10000 0",
            "correlation 3 0 1/1 1/1", "correlation 0 3 1/1 1/1", "correlation 0 1 1/1", "correlation 0 1 1/1 1/1 1/1",
        ):
            self.refuse(text, question)
        for fraction in (
            "10000/1", "1/10000", "-10000/1", "2/2", "4/2", "2/4", "0/1", "0/2", "1/0", "0/0", "-1/0", "1/-2", "-1/-2",
            "+1/2", "1/+2", "01/2", "1/02", "-0/1", "1", "-1", "1/", "/1", "/", "", "1/2/3", "1 /2", "1/ 2", "0.5", "1//2",
            "\u0661/2", "x/2", "9999/9999", "1_0/3",
        ):
            for question in (
                f"value {fraction} 1/1", f"value 1/1 {fraction}", f"circle {fraction}",
                f"correlation 0 1 {fraction} 1/1", f"correlation 0 1 1/1 {fraction}",
            ):
                self.refuse(text, question)
        for question in ("circle -1/2", "correlation 0 1 -1/2 1/1", "correlation 0 1 1/1 -1/2", "circle -9999/1"):
            self.refuse(text, question)

    def refuse(self, text, question):
        self.assertFalse(is_case(f"{text}{question}\n"), question)
        for whole in (f"{text}{question}\n", f"{text}sum\n{question}\n", f"{text}{question}\nsum\n"):
            with self.subTest(question=question), self.assertRaises(CaseSyntaxError):
                answer_case(whole)

    def test_lines_that_are_none_of_those_told(self):
        text = "spins 0 1 2\nedge 0 1 2\n"
        for line in (
            "", " ", "sums", "Sum", "SUM", "sum ", " sum", "sum 1", "sum sum", "clusters 1", "least 0", "width 0", "value",
            "value 1/1", "value 1/1 1/1 1/1", "circle", "circle 1/1 1/1", "question", "spins 0 1 2", "edge 0 2 1 1",
            "edge 0", "edge", "sum\r", "sum\t", "#", "0", "edge 0 1 2", "sum\x0bleast", "sum\u2028least",
        ):
            self.refuse(text, line)

    def test_questions_ahead_of_the_edges(self):
        for question in QUESTIONS:
            for whole in (
                f"spins 0 1\n{question}\nedge 0 1 2\n", f"{question}\nspins 0 1\nedge 0 1 2\n",
                f"spins 0 1 2\nedge 0 1 2\n{question}\nedge 1 2 2\n", f"{question}\n",
            ):
                with self.subTest(text=whole), self.assertRaises(CaseSyntaxError):
                    answer_case(whole)

    def test_a_missing_last_line_feed(self):
        for question in QUESTIONS:
            for whole in (f"spins 0 1\nedge 0 1 2\n{question}", f"spins 0 1\nedge 0 1 2\nsum\n{question}"):
                with self.subTest(text=whole), self.assertRaises(CaseSyntaxError):
                    answer_case(whole)

    def test_each_small_change(self):
        outcomes = []
        for question in QUESTIONS + ["value 12/35 -7/1000", "pair 10 1"]:
            text = "spins" + " 1" * (11 if "10 " in question else 3) + "\nedge 1 2 2\nsum\n"
            behind = "" if len(question) % 2 else "width\n"
            for other in changed(f"{question}\n", "019 -/\ns"):
                whole = text + other + behind
                outcomes.append(is_case(whole))
                if outcomes[-1]:
                    answers = answer_case(whole)
                    self.assertEqual(answers.count("\n"), whole.count("\n") - 2)
                else:
                    with self.assertRaises(CaseSyntaxError, msg=repr(whole)):
                        answer_case(whole)
        self.assertGreater(outcomes.count(True), 150)
        self.assertGreater(outcomes.count(False), 1500)

    def test_small_changes_of_the_whole_text(self):
        for text in ("spins 0 1\nedge 0 1 2\nsum\nleast\n", "spins -3 9 0\nedge 0 2 -1\nvalue 1/2 -3/4\n"):
            for other in changed(text, SIGNS):
                if is_case(other):
                    answer_case(other)
                else:
                    with self.assertRaises(CaseSyntaxError, msg=repr(other)):
                        answer_case(other)


class Largest(unittest.TestCase):
    def test_several_questions_with_the_time_that_they_need(self):
        spins = largest(True)
        self.assertEqual((len(spins.fields), len(spins.edges)), (12, 24))
        text = format_spins(spins)
        questions = [
            "sum", "clusters", "pair 3 11", "least", "width", "value 9998/9999 -1/9999", "circle 9998/9999",
            "correlation 2 9 9998/9999 123/9998", "sum", "pair 11 3",
        ]
        found, needed = timed(answer_case, text + "".join(question + "\n" for question in questions))
        self.assertLess(needed, 5)
        answers = found.split("\n")
        self.assertEqual(len(answers), len(questions) + 1)
        total = sum_by_states(spins)
        self.assertEqual(answers[0], format_polynomial(total))
        self.assertEqual(answers[2], format_polynomial(pair_sum(spins, 3, 11)))
        self.assertEqual(answers[3].split(" ")[0], str(min(a for (a, _), _ in total)))
        self.assertEqual(answers[4], "4")
        told = exact(plain_value(total, (9998, 9999), (-1, 9999)))
        self.assertEqual(answers[5], f"{told[0]}/{told[1]}")
        self.assertEqual(answers[6], f"{circle_count(row_at(total, (9998, 9999)))} 12")
        told = correlation(spins, 2, 9, (9998, 9999), (123, 9998))
        self.assertEqual(answers[7], f"{told[0]}/{told[1]}")
        self.assertEqual(answers[8:], [answers[0], answers[2], ""])

    def test_as_many_questions_as_a_text_can_hold(self):
        strong = Spins([9] * 12, [(u, v, 9) for u, v in LARGEST_PAIRS])
        text = format_spins(strong)
        lines = [f"correlation {u} {v} 1/9999 9999/{9001 + 2 * u}" for u, v in product(range(12), repeat=2)]
        lines += [f"value 1/9999 {u + 1}/9973" for u in range(12)] + [f"circle {u + 9960}/9973" for u in range(12)]
        lines = [line for line in lines if is_question(line, 12)]
        lines += [f"pair {u} {v}" for u, v in product(range(12), repeat=2)]
        for line in lines:
            if len(text) + len(line) < 4000:
                text += line + "\n"
        found, needed = timed(answer_case, text)
        self.assertGreater(len(text), 3900)
        self.assertEqual(found.count("\n"), text.count("\n") - 25)
        self.assertLess(needed, 20)


if __name__ == "__main__":
    unittest.main()
