"""What is handed in stays, and the same is told again: promise 1."""

import copy
import unittest

from granary.errors import BadName, BadRow, BadText
from granary.names import checked
from granary.texts import read, written

TEXTS = (
    "table x a b", "index t b", "put t 1 -2", "set t b = a + 1 where not a = 2", "strike t where a = 1 or b = 2",
    "pick a, u.d from t and u where b = d by d first 2", "count from t", "begin",
    "put t 1", "index t c", "pick x from t", "count from t and t", "table t a", "set t a = 1",
)


def answer(ask, *handed):
    """What is told, or how it's refused."""
    try:
        return ask(*handed)
    except (BadName, BadRow, BadText) as error:
        return error.__class__.__name__, vars(error)


class Kept(unittest.TestCase):
    def test_nothing_that_is_handed_in_is_changed(self):
        shapes = {"t": ["a", "b", "c"], "u": ("k", "d")}
        indexes = [("t", "c")]
        for text in TEXTS:
            tree = read(text)
            before = copy.deepcopy((tree, shapes, indexes))
            written(tree)
            answer(checked, tree, shapes, indexes)
            self.assertEqual((tree, shapes, indexes), before)

    def test_the_same_is_told_again(self):
        shapes = {"t": ("a", "b"), "u": ("k", "d")}
        for text in TEXTS + ("table", "put t 01", "strike t where (a"):
            first = answer(read, text)
            self.assertEqual(answer(read, text), first)
            if first[0] != "BadText":
                self.assertEqual(written(first), written(first))
                one = answer(checked, first, shapes, [("t", "b")])
                self.assertEqual(answer(checked, first, shapes, [("t", "b")]), one)

    def test_what_was_told_stays_if_the_shapes_change(self):
        shapes = {"t": ["a", "b"]}
        tree = checked(read("pick b from t"), shapes)
        shapes["t"][1] = "x"
        shapes["u"] = ["b"]
        self.assertEqual(tree, ("ask", "pick", (("field", "t", "b"),), ("t",), None, (), None))

    def test_a_refusal_changes_nothing(self):
        good = read("count from t where a = 1")
        for text in ("count from t where a = ", "(", "", "strike t where not not (a"):
            answer(read, text)
            self.assertEqual(read("count from t where a = 1"), good)

    def test_a_changed_refusal_stays_apart(self):
        first = answer(read, "table")
        first[1]["place"] = 7
        self.assertEqual(answer(read, "table"), ("BadText", {"place": 1}))


if __name__ == "__main__":
    unittest.main()
