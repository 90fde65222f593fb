"""The texts of trees: promise 3."""

import random
import unittest

from granary.errors import BadText
from granary.texts import read, written
from reference import Maker, words_of

# Each is written just as it stands here.
KEPT = (
    "table t a", "table t a b c d", "index t a", "put t 1", "put t 0 -1 999999 -999999",
    "set t a = 1", "set t a = -1, b = a - 2, c = (a + b) * c where a = 1 and not b = 2",
    "strike t", "strike t where t.a <= -5 or a >= 5",
    "pick a from t", "pick -1, t.a, (a - b) * c from t and u and v where a = 1 by t.b, -2, a * b first 10",
    "pick a from t by a", "pick a from t first 0", "pick a from t where a < b first 7",
    "count from t", "count from t and u where not not a > 1", "sum a from t", "sum (a + b) * (c - d) from t",
    "least a - -5 from t where (a + 1) * 2 = 3", "most t.a * u.b from t and u", "begin", "done", "undo",
)
TERMS = (
    "0", "-1", "a", "t.a", "a + b + c", "a - b - c", "a - b + c", "a * b * c", "a + b * c", "a * b + c",
    "a - (b + c)", "a - (b - c)", "a + (b + c)", "a + (b - c)", "a * (b * c)", "a * (b + c)", "(a + b) * c",
    "(a - b) * (c - d)", "a * b - c * d", "(a + b) * c * d", "a * (b * c) * d", "a - (b - (c - d))",
    "((a + b) * c - d) * 2", "-1 - -1", "a - 1", "-1 * -1", "a * -1", "(a - -1) * -1",
)
CONDITIONS = (
    "a = 1", "a < 1", "a > 1", "a <= 1", "a >= -1", "1 = 1", "a + b = c * d", "(a + b) * c = 1", "a * (b + 1) < 2",
    "not a = 1", "not not a = 1", "not (a = 1 and b = 2)", "not (a = 1 or b = 2)", "not (a + 1) * 2 = 3",
    "a = 1 and b = 2 and c = 3", "a = 1 and (b = 2 and c = 3)", "a = 1 or b = 2 or c = 3", "a = 1 or (b = 2 or c = 3)",
    "a = 1 or b = 2 and c = 3", "(a = 1 or b = 2) and c = 3", "a = 1 and (b = 2 or c = 3)", "a = 1 and b = 2 or c = 3",
    "not a = 1 and not b = 2", "not a = 1 or not b = 2", "not (not a = 1 and b = 2)",
    "not (a = 1 and not (b = 2 or c = 3))",
    "(a = 1 or b = 2) and (c = 3 or d = 4)", "((a = 1 or b = 2) and c = 3 or d = 4) and a = 5",
    "a = 1 or (b = 2 or (c = 3 or d = 4))",
)
# What is read of the first is written as the second.
SHORTER = (
    ("  pick   (a),((b))from t and u where((a=1)and(b<=2))first 3",
     "pick a, b from t and u where a = 1 and b <= 2 first 3"),
    ("sum (a * b) + (c) from t", "sum a * b + c from t"), ("sum (a - b) - c from t", "sum a - b - c from t"),
    ("sum (a + b) + (c * d) from t", "sum a + b + c * d from t"),
    ("sum ((a + b)) * (-1) from t", "sum (a + b) * -1 from t"),
    ("sum t . a from t", "sum t.a from t"), ("sum - 5 from t", "sum -5 from t"), ("sum a-5 from t", "sum a - 5 from t"),
    ("put t 1-2 -3", "put t 1 -2 -3"), ("set t a=1 ,b=2", "set t a = 1, b = 2"),
    ("strike t where (not a = 1) and (b = 2)", "strike t where not a = 1 and b = 2"),
    ("strike t where not (not (a = 1))", "strike t where not not a = 1"),
    ("strike t where not (a = 1)", "strike t where not a = 1"),
    ("strike t where (a = 1 and b = 2) or (c = 3 and d = 4)", "strike t where a = 1 and b = 2 or c = 3 and d = 4"),
    ("strike t where (a) = (b + c)", "strike t where a = b + c"),
    ("strike t where (a = 1 and b = 2) and c = 3", "strike t where a = 1 and b = 2 and c = 3"),
    ("table  t  a", "table t a"), (" begin ", "begin"),
)


def bracket_pairs(words):
    """The places of brackets and of those that end them."""
    begun = []
    pairs = []
    for at, word in enumerate(words):
        if word == "(":
            begun.append(at)
        elif word == ")":
            pairs.append((begun.pop(), at))
    return pairs


class Written(unittest.TestCase):
    def same(self, text):
        with self.subTest(text):
            self.assertEqual(written(read(text)), text)

    def test_statements(self):
        for text in KEPT:
            self.same(text)

    def test_terms(self):
        for text in TERMS:
            self.same(f"sum {text} from t")
            self.same(f"pick {text}, {text} from t by {text}")
            self.same(f"set t a = {text}")
            self.same(f"strike t where {text} < {text}")

    def test_conditions(self):
        for text in CONDITIONS:
            self.same(f"strike t where {text}")
            self.same(f"set t a = 1 where {text}")
            self.same(f"count from t where {text}")
            self.same(f"pick a from t where {text} by a first 1")

    def test_no_brackets_and_blanks_but_where_they_must_be(self):
        for text, other in SHORTER:
            with self.subTest(text):
                self.assertEqual(written(read(text)), other)

    def test_trees_that_were_not_read(self):
        self.assertEqual(written(("put", "t", (-1, 2))), "put t -1 2")
        self.assertEqual(written(("ask", "count", (), ("t",), None, (), None)), "count from t")
        condition = ("and", ("or", ("=", ("num", -1), ("field", "t", "a")), ("<", ("num", 0), ("num", 1))),
                     ("not", (">=", ("field", "", "b"), ("-", ("num", 1), ("-", ("num", 2), ("num", -3))))))
        self.assertEqual(
            written(("strike", "t", condition)),
            "strike t where (-1 = t.a or 0 < 1) and not b >= 1 - (2 - -3)",
        )

    def test_twenty_brackets(self):
        text = "a"
        for _ in range(20):
            text = f"a - ({text} - b)"
        self.same(f"sum {text} from t")
        self.same("strike t where " + "not " * 20 + "a = 1")
        self.same("strike t where " + "not (a = 1 or " * 10 + "b = 2" + ")" * 10)

    def test_many_parts(self):
        self.same("sum " + " - ".join(["a * b"] * 5000) + " from t")
        self.same("strike t where " + " or ".join(["a = 1 and b = 2"] * 5000))

    def test_made_trees_are_read_again(self):
        maker = Maker(random.Random(74))
        for _ in range(3000):
            tree = maker.statement()
            self.assertEqual(read(written(tree)), tree)

    def test_no_bracket_may_lack(self):
        maker = Maker(random.Random(75))
        for _ in range(400):
            tree = maker.statement()
            words = words_of(written(tree))
            for begin, end in bracket_pairs(words):
                shorter = " ".join(words[:begin] + words[begin + 1:end] + words[end + 1:])
                try:
                    self.assertNotEqual(read(shorter), tree, (written(tree), shorter))
                except BadText:
                    pass

    def test_blanks(self):
        maker = Maker(random.Random(76))
        for _ in range(500):
            text = written(maker.statement())
            self.assertEqual(text.strip(), text)
            for wrong in ("  ", " ,", "( ", " )", " .", ". ", "- -  "):
                self.assertNotIn(wrong, text)
            for at, sign in enumerate(text):
                if sign == ",":
                    self.assertEqual(text[at + 1], " ")
                if sign in "+*<":
                    self.assertEqual(text[at - 1], " ")


if __name__ == "__main__":
    unittest.main()
