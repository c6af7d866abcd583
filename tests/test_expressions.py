import itertools
import random
import time
import unittest

from streamwrights.errors import BadText
from streamwrights.formats import Format
from tests import reckoning


def parts_between(text, between):
    """The parts of a text that stand between what stands outside of all brackets."""
    parts, depth, start, at = [], 0, 0, 0
    while at < len(text):
        depth += {"(": 1, ")": -1}.get(text[at], 0)
        if depth == 0 and text.startswith(between, at):
            parts.append(text[start:at])
            at += len(between)
            start = at
        else:
            at += 1
    return parts + [text[start:]]


def is_expression(text):
    if text == "":
        return False
    if len(text) == 1:
        return text in "01abc"
    if text[-1] in "*+?":
        return is_expression(text[:-1])
    if text[0] != "(" or text[-1] != ")":
        return False
    inner = text[1:-1]
    for between in (" | ", " "):
        parts = parts_between(inner, between)
        if len(parts) > 1 and all(is_expression(part) for part in parts):
            return True
    return False


def is_begun(text):
    """Whether some expression begins with a text: whatever is missing can be short."""
    depth = max(text.count("(") - text.count(")"), 0)
    for middle in ("", "a", " a", "| a", " | a"):
        for closing in itertools.product((")", " a)", " | a)"), repeat=depth):
            if is_expression(text + middle + "".join(closing)):
                return True
    return False


def plain_place(text):
    for at in range(len(text)):
        if not is_begun(text[:at + 1]):
            return at
    return None if is_expression(text) else len(text)


def random_expression(rng, depth):
    """An expression, and its texts of up to four letters."""
    kind = rng.randrange(7 if depth else 2)
    if kind < 2:
        sign = rng.choice("aabb01")
        return sign, {"0": set(), "1": {""}}.get(sign, {sign})
    if kind < 4:
        text, texts = random_expression(rng, depth - 1)
        sign = rng.choice("*+?")
        many = {"*": range(5), "+": range(1, 5), "?": range(2)}[sign]
        rows = {"".join(row) for times in many for row in itertools.product(sorted(texts), repeat=times)
                if sum(map(len, row)) <= 4} if len(texts) < 6 else closed(texts, sign)
        return text + sign, rows
    parts = [random_expression(rng, depth - 1) for _ in range(rng.randint(2, 3))]
    if kind < 6:
        texts = {""}
        for _, further in parts:
            texts = {one + other for one in texts for other in further if len(one + other) <= 4}
        return "(" + " ".join(text for text, _ in parts) + ")", texts
    return "(" + " | ".join(text for text, _ in parts) + ")", set().union(*(texts for _, texts in parts))


def closed(texts, sign):
    if sign == "?":
        return texts | {""}
    rows = set(texts)
    for _ in range(4):
        rows |= {one + other for one in rows for other in texts if len(one + other) <= 4}
    return rows | {""} if sign == "*" else rows


class ExpressionsTest(unittest.TestCase):

    def place(self, thing):
        with self.assertRaises(BadText) as caught:
            Format.by_expression(thing)
        return caught.exception.place

    def test_examples(self):
        self.assertEqual(Format.by_expression("(a b)*"), Format(2, ((0, "a", 1), (1, "b", 0)), (0,)))
        self.assertEqual(Format.by_expression("a*?"), Format(1, ((0, "a", 0),), (0,)))
        self.assertEqual(Format.by_expression("0"), Format(1, (), ()))
        self.assertEqual(Format.by_expression("1"), Format(1, (), (0,)))
        self.assertEqual(Format.by_expression(text="0*"), Format(1, (), (0,)))
        self.assertEqual(Format.by_expression("(a 0)"), Format(1, (), ()))
        self.assertEqual(list(Format.by_expression("((a b)* | c)?").texts(most=4)), ["", "c", "ab", "abab"])

    def test_places(self):
        for thing in (None, 3, True, ["a"], ("a",), Format(1, (), ()), b"a"):
            self.assertEqual(self.place(thing), -1)
        for text, place in (("", 0), ("(", 1), ("()", 1), ("(a)", 2), ("(a", 2), ("(a ", 3), ("(a |", 4), ("(a | ", 5),
                            ("(a |b)", 4), ("(a|b)", 2), ("(a  b)", 3), ("(a b | c)", 5), ("(a | b c)", 7), ("a b", 1),
                            ("ab", 1), ("A", 0), ("a)", 1), ("*", 0), ("(* a)", 1), ("(a b", 4), ("(a b))", 5),
                            ("2", 0), (" a", 0), ("a ", 1), ("(a b )", 5), ("\u00e9", 0), ("(a\nb)", 2)):
            self.assertEqual(self.place(text), place, text)

    def test_all_short_strings(self):
        for length in range(6):
            for row in itertools.product("a(|) *", repeat=length):
                text = "".join(row)
                place = plain_place(text)
                if place is None:
                    Format.by_expression(text)
                else:
                    self.assertEqual(self.place(text), place, text)

    def test_long_strings(self):
        started = time.perf_counter()
        self.assertEqual(self.place("(" * 2000), 2000)
        self.assertEqual(self.place("(" * 500 + ")"), 500)
        self.assertEqual(self.place("(a " * 600), 1800)
        self.assertEqual(self.place("(a | " * 300 + "b" + ")" * 301), 1801)
        self.assertEqual(self.place("a" + "*" * 1500 + "a"), 1501)
        self.assertEqual(self.place("(" + "a " * 900), 1801)
        self.assertLess(time.perf_counter() - started, 5)

    def test_texts_of_random_expressions(self):
        rng = random.Random(11)
        words = reckoning.all_texts("ab", 4)
        for _ in range(600):
            text, texts = random_expression(rng, 3)
            if sum(sign in "ab" for sign in text) > 20:
                continue
            form = Format.by_expression(text)
            self.assertEqual({word for word in words if word in form}, {word for word in words if word in texts}, text)
            self.assertEqual(form, form.least())

    def test_twenty_letters(self):
        form = Format.by_expression("((a | b)* (a (a | b) (a | b) (a | b) (a | b) (a | b) (a | b) (a | b) (a | b)))")
        self.assertEqual(len(form), 512)
        self.assertTrue("bab" + "a" * 7 in form)
        self.assertFalse("abb" + "a" * 7 in form)
        deep = "a"
        for _ in range(12):
            deep = "(" + deep + " b?)*"
        self.assertTrue("abab" in Format.by_expression(deep))


if __name__ == "__main__":
    unittest.main()
