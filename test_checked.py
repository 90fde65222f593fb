"""The names in statements: promise 4."""

import unittest

from granary.errors import BadName, BadRow, BadText, StoreError
from granary.names import checked
from granary.texts import read, written

SHAPES = {"t": ("a", "b", "c"), "u": ("a", "d"), "v": ("e",), "w": ("d", "b", "f", "g")}
INDEXES = (("t", "c"), ("w", "f"))


def told(text):
    """The text of the tree with all names told, by SHAPES and INDEXES."""
    return written(checked(read(text), SHAPES, INDEXES))


class Filled(unittest.TestCase):
    def same(self, *pairs):
        for text, other in pairs:
            with self.subTest(text):
                self.assertEqual(told(text), other)

    def test_the_tree_of_one_field(self):
        self.assertEqual(
            checked(read("sum b from t"), SHAPES),
            ("ask", "sum", (("field", "t", "b"),), ("t",), None, (), None),
        )

    def test_statements_without_terms_stay(self):
        self.same(
            ("table x a", "table x a"), ("table x x", "table x x"), ("table a t u v w", "table a t u v w"),
            ("index t b", "index t b"), ("index u d", "index u d"), ("put t 1 -2 3", "put t 1 -2 3"),
            ("put v 0", "put v 0"), ("put w 1 2 3 4", "put w 1 2 3 4"), ("begin", "begin"), ("done", "done"),
            ("undo", "undo"),
            ("strike t", "strike t"), ("count from t and u", "count from t and u"),
        )

    def test_set(self):
        self.same(
            ("set t b = 1", "set t b = 1"),
            ("set t b = a + c, c = t.b where not a = 1 or b * -2 < t.c",
             "set t b = t.a + t.c, c = t.b where not t.a = 1 or t.b * -2 < t.c"),
            ("set w f = f, b = f, g = d", "set w f = w.f, b = w.f, g = w.d"),
        )

    def test_strike(self):
        self.same(("strike u where a = d and u.a >= 2", "strike u where u.a = u.d and u.a >= 2"))

    def test_questions(self):
        self.same(
            ("pick a, b * (c - 1) from t where a < b by c, t.b first 3",
             "pick t.a, t.b * (t.c - 1) from t where t.a < t.b by t.c, t.b first 3"),
            ("pick b, d, e from t and u and v where c = d by e, b",
             "pick t.b, u.d, v.e from t and u and v where t.c = u.d by v.e, t.b"),
            ("sum t.a * u.a from t and u where b = d", "sum t.a * u.a from t and u where t.b = u.d"),
            ("least e from v where e > 0", "least v.e from v where v.e > 0"),
            ("most f from w and t where not (not g = 1 and c = f)",
             "most w.f from w and t where not (not w.g = 1 and t.c = w.f)"),
            ("count from u and t where d = c", "count from u and t where u.d = t.c"),
        )

    def test_told_again_it_stays(self):
        for text in ("pick b, d from t and u where c = 1 by d + 1", "set t b = a where c = 1"):
            tree = checked(read(text), SHAPES, INDEXES)
            self.assertEqual(checked(tree, SHAPES, INDEXES), tree)

    def test_a_field_may_have_the_name_of_its_table(self):
        shapes = {"a": ("a", "t"), "t": ("k", "u")}
        tree = checked(read("sum a.a + t.u + t from a and t"), shapes)
        self.assertEqual(written(tree), "sum a.a + t.u + a.t from a and t")

    def test_fields_of_shapes_as_lists(self):
        shapes = {"t": ["a", "b"]}
        self.assertEqual(written(checked(read("sum b from t"), shapes, [])), "sum t.b from t")

    def test_many_parts(self):
        text = "count from t where " + " and ".join(["b + c + 1 < a"] * 3000)
        self.assertEqual(told(text), text.replace("b + c + 1 < a", "t.b + t.c + 1 < t.a"))


class Refused(unittest.TestCase):
    def refused(self, *pairs):
        for text, word in pairs:
            with self.subTest(text):
                with self.assertRaises(BadName) as caught:
                    told(text)
                self.assertEqual(caught.exception.word, word)

    def test_table(self):
        self.refused(
            ("table t x", "t"), ("table t x x", "t"), ("table x a a", "a"), ("table x a b a", "a"),
            ("table x a b b a", "b"), ("table x a b c b", "b"), ("table w w w", "w"),
        )

    def test_index(self):
        self.refused(
            ("index x a", "x"), ("index x x", "x"), ("index t d", "d"), ("index t t", "t"), ("index t a", "a"),
            ("index v e", "e"), ("index t c", "c"), ("index w f", "f"), ("index w x", "x"),
        )

    def test_indexes_as_a_list_as_a_tuple_and_not_at_all(self):
        tree = read("index t c")
        for indexes in ([("t", "c")], (("t", "c"),), [("u", "d"), ("t", "c")]):
            with self.assertRaises(BadName) as caught:
                checked(tree, SHAPES, indexes)
            self.assertEqual(caught.exception.word, "c")
        for indexes in ([], (), [("t", "b")], (("w", "c"),)):
            self.assertEqual(checked(tree, SHAPES, indexes), tree)
        self.assertEqual(checked(tree, SHAPES), tree)
        self.assertEqual(checked(tree, SHAPES, indexes=[]), tree)

    def test_put(self):
        self.refused(("put x 1", "x"), ("put a 1 2 3", "a"))

    def test_set(self):
        self.refused(
            ("set x a = 1", "x"), ("set x x = y where z = 1", "x"), ("set t d = 1", "d"), ("set t a = 1", "a"),
            ("set t b = 1, b = 2", "b"), ("set t b = 1, c = 2, b = 3", "b"), ("set t b = 1, c = 2, c = 3", "c"),
            ("set t b = d", "d"), ("set t b = u.a", "u"), ("set t b = x.a", "x"), ("set t b = t.d", "d"),
            ("set t b = 1 where d = 1", "d"), ("set t b = 1 where u.a = 1", "u"), ("set v e = 1", "e"),
        )

    def test_set_in_its_turn(self):
        self.refused(
            ("set t a = x", "a"), ("set t x = y", "x"), ("set t b = x, b = 1", "x"), ("set t b = x, a = 1", "x"),
            ("set t b = 1, b = x", "b"), ("set t b = 1, a = x", "a"), ("set t b = 1, c = x where y = 1", "x"),
            ("set t b = x + y", "x"), ("set t b = 1, x = 1 where y = 1", "x"), ("set t b = c, y = 1, x = 1", "y"),
        )

    def test_strike(self):
        self.refused(
            ("strike x", "x"), ("strike x where y = 1", "x"), ("strike t where d = 1", "d"),
            ("strike t where u.a = 1", "u"),
            ("strike t where t.e = 1", "e"), ("strike t where a = 1 and not (b = 2 or x = 3)", "x"),
        )

    def test_tables_of_questions(self):
        self.refused(
            ("count from x", "x"), ("count from t and x", "x"), ("count from x and y", "x"),
            ("count from t and t", "t"),
            ("count from t and u and t", "t"), ("count from t and t and x", "t"), ("count from t and x and t", "x"),
            ("count from u and t and u", "u"), ("count from x and x", "x"), ("count from a", "a"),
        )

    def test_tables_ahead_of_all_else(self):
        self.refused(
            ("pick x from y", "y"), ("pick x, z from t and y where q = 1 by p", "y"), ("sum x from t and t", "t"),
            ("least x.y from z where q = 1", "z"), ("count from z where q = 1", "z"),
            ("most a from t and u and t", "t"),
        )

    def test_fields_of_questions(self):
        self.refused(
            ("pick d from t", "d"), ("pick t from t", "t"), ("pick u.a from t", "u"), ("pick x.a from t", "x"),
            ("pick t.d from t", "d"), ("pick t.x from t and u", "x"), ("sum e from t and u", "e"),
            ("pick u.d from t and v", "u"), ("count from t where e = 1", "e"), ("pick a from t by e", "e"),
            ("least b + e from t", "e"), ("most -1 * (b - e) from t", "e"), ("pick v.a from t", "v"),
        )

    def test_fields_of_several_tables(self):
        self.refused(
            ("pick a from t and u", "a"), ("pick t.a, a from t and u", "a"), ("sum b from t and w", "b"),
            ("count from t and u where a = 1", "a"), ("pick t.a from t and u by a", "a"),
            ("sum d from u and v and w", "d"),
        )
        self.assertEqual(told("pick a from t and v"), "pick t.a from t and v")

    def test_the_first_in_its_turn(self):
        self.refused(
            ("pick x, y from t where z = 1 by p", "x"), ("pick a, y from t where z = 1 by p", "y"),
            ("pick a from t where z = 1 by p", "z"), ("pick a from t where a = 1 by p, q", "p"),
            ("pick a from t by b, q", "q"), ("pick x + y from t", "x"), ("pick a + y * z from t", "y"),
            ("pick (a + y) * z from t", "y"), ("pick a - (b - z) from t", "z"), ("count from t where x < y", "x"),
            ("count from t where x = 1 and y = 2 or z = 3", "x"), ("count from t where a = 1 or y = 2 and z = 3", "y"),
            ("count from t where not (a = x or y = 2)", "x"), ("count from t where a = 1 and b = 2 and z = y", "z"),
            ("pick x.y from t", "x"), ("pick t.y, x.a from t", "y"), ("strike t where x.a = 1 or t.y = 2", "x"),
            ("pick a from t and u", "a"), ("pick x, a from t and u", "x"), ("pick a, x from t and u", "a"),
        )

    def test_rows(self):
        for text in ("put t 1", "put t 1 2", "put t 1 2 3 4", "put u 1", "put u 1 2 3", "put v 1 2", "put w 1 2 3"):
            with self.subTest(text):
                self.assertRaises(BadRow, told, text)

    def test_kinds_of_refusals(self):
        for text in ("put t 1", "put x 1"):
            self.assertRaises(StoreError, told, text)
        self.assertRaises(BadText, told, "put t")

    def test_no_tables_at_all(self):
        for text in ("put t 1", "strike t", "set t b = 1", "index t b", "count from t"):
            with self.assertRaises(BadName) as caught:
                checked(read(text), {})
            self.assertEqual(caught.exception.word, "t")
        self.assertEqual(checked(read("table t a"), {}), ("table", "t", ("a",)))


if __name__ == "__main__":
    unittest.main()
