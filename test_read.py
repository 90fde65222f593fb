"""The trees of statements: promises 2 and 3."""

import random
import unittest

from granary.texts import read
from reference import KEPT_WORDS, Maker


def field(name, table=""):
    return ("field", table, name)


def num(number):
    return ("num", number)


A, B, C, D = field("a"), field("b"), field("c"), field("d")
IS = ("=", A, num(1))
LESS = ("<", B, num(2))
MORE = (">", C, num(3))


def ask(how, terms, tables, condition=None, by=(), first=None):
    return ("ask", how, terms, tables, condition, by, first)


def where(text):
    """The tree of a condition."""
    return read("strike t where " + text)[2]


def term(text):
    """The tree of a term."""
    return read("sum " + text + " from t")[2][0]


class Statements(unittest.TestCase):
    def told(self, *pairs):
        for text, tree in pairs:
            with self.subTest(text):
                self.assertEqual(read(text), tree)

    def test_table(self):
        self.told(
            ("table t a", ("table", "t", ("a",))),
            ("table t a b", ("table", "t", ("a", "b"))),
            ("table t d c b a", ("table", "t", ("d", "c", "b", "a"))),
            ("table t t t", ("table", "t", ("t", "t"))),
        )

    def test_index(self):
        self.told(("index t a", ("index", "t", "a")), ("index a a", ("index", "a", "a")))

    def test_put(self):
        self.told(
            ("put t 1", ("put", "t", (1,))),
            ("put t 0 -1", ("put", "t", (0, -1))),
            ("put t 999999 -999999 10 100000", ("put", "t", (999999, -999999, 10, 100000))),
            ("put t 1 - 2", ("put", "t", (1, -2))),
            ("put t 5-3", ("put", "t", (5, -3))),
        )

    def test_set(self):
        self.told(
            ("set t a = 1", ("set", "t", (("a", num(1)),), None)),
            ("set t a = b + 1 where a = 1", ("set", "t", (("a", ("+", B, num(1))),), IS)),
            ("set t a = b, b = a", ("set", "t", (("a", B), ("b", A)), None)),
            ("set t a = 1, a = 2, a = 3 where b < 2",
             ("set", "t", (("a", num(1)), ("a", num(2)), ("a", num(3))), LESS)),
        )

    def test_strike(self):
        self.told(("strike t", ("strike", "t", None)), ("strike t where c > 3", ("strike", "t", MORE)))

    def test_pick(self):
        self.told(
            ("pick a from t", ask("pick", (A,), ("t",))),
            ("pick a, b from t and u", ask("pick", (A, B), ("t", "u"))),
            ("pick a from t where a = 1", ask("pick", (A,), ("t",), IS)),
            ("pick a from t by b", ask("pick", (A,), ("t",), None, (B,))),
            ("pick a from t first 5", ask("pick", (A,), ("t",), None, (), 5)),
            ("pick a from t first 0", ask("pick", (A,), ("t",), None, (), 0)),
            ("pick a from t by b, c first 999999", ask("pick", (A,), ("t",), None, (B, C), 999999)),
            ("pick a from t where a = 1 by b", ask("pick", (A,), ("t",), IS, (B,))),
            ("pick a from t where a = 1 first 7", ask("pick", (A,), ("t",), IS, (), 7)),
            ("pick a, b, c, d, 1, -1 from t and u and v where a = 1 and b < 2 by a, b, c first 1",
             ask("pick", (A, B, C, D, num(1), num(-1)), ("t", "u", "v"), ("and", IS, LESS), (A, B, C), 1)),
            ("pick a from t and t", ask("pick", (A,), ("t", "t"))),
        )

    def test_other_questions(self):
        self.told(
            ("count from t", ask("count", (), ("t",))),
            ("count from t and u and v where a = 1", ask("count", (), ("t", "u", "v"), IS)),
            ("sum a from t", ask("sum", (A,), ("t",))),
            ("sum a + b from t and u where a = 1", ask("sum", (("+", A, B),), ("t", "u"), IS)),
            ("least -5 from t", ask("least", (num(-5),), ("t",))),
            ("least a from t where c > 3", ask("least", (A,), ("t",), MORE)),
            ("most a from t", ask("most", (A,), ("t",))),
            ("most (a) from t where b < 2", ask("most", (A,), ("t",), LESS)),
        )

    def test_dealings(self):
        self.told(("begin", ("begin",)), ("done", ("done",)), ("undo", ("undo",)))

    def test_numbers_are_whole_numbers(self):
        for tree in (read("put t 1 -2")[2], read("pick a from t first 3")[6:], term("4")[1:]):
            self.assertTrue(all(isinstance(number, int) for number in tree))

    def test_all_is_tuples(self):
        def look(tree):
            self.assertIn(tree.__class__, (tuple, str, int, None.__class__))
            if isinstance(tree, tuple):
                for part in tree:
                    look(part)
        look(read("pick a, -1 from t and u where not (a = 1 or b = 2) by c first 1"))
        look(read("set t a = 1, b = 2 where a = 1"))
        look(read("put t 1 2"))
        look(read("table t a b"))


class Names(unittest.TestCase):
    def test_of_one_and_of_eight_letters(self):
        for name in ("a", "z", "abcdefgh", "zzzzzzzz", "tables", "sets", "picked", "whereas", "no", "an", "ands"):
            self.assertEqual(read(f"table {name} {name}"), ("table", name, (name,)))
            self.assertEqual(term(name), field(name))
            self.assertEqual(term(f"{name}.{name}"), field(name, name))

    def test_words_within_words(self):
        for word in KEPT_WORDS:
            if len(word) < 8:
                self.assertEqual(read(f"index {word}x x{word}"), ("index", word + "x", "x" + word))

    def test_other_words_may_be_names(self):
        for name in ("read", "row", "key", "all", "keyof", "byof", "ask", "come", "number", "name", "term"):
            self.assertEqual(read(f"index {name} {name}"), ("index", name, name))


class Terms(unittest.TestCase):
    def told(self, *pairs):
        for text, tree in pairs:
            with self.subTest(text):
                self.assertEqual(term(text), tree)

    def test_numbers_and_fields(self):
        self.told(
            ("0", num(0)), ("7", num(7)), ("-7", num(-7)), ("- 7", num(-7)), ("999999", num(999999)),
            ("-999999", num(-999999)), ("a", A), ("u.a", field("a", "u")), ("u . a", field("a", "u")),
        )

    def test_first_the_first(self):
        self.told(
            ("a + b + c", ("+", ("+", A, B), C)),
            ("a - b - c", ("-", ("-", A, B), C)),
            ("a - b + c", ("+", ("-", A, B), C)),
            ("a + b - c", ("-", ("+", A, B), C)),
            ("a * b * c", ("*", ("*", A, B), C)),
            ("a - b - c - d", ("-", ("-", ("-", A, B), C), D)),
        )

    def test_times_goes_ahead(self):
        self.told(
            ("a + b * c", ("+", A, ("*", B, C))),
            ("a * b + c", ("+", ("*", A, B), C)),
            ("a - b * c - d", ("-", ("-", A, ("*", B, C)), D)),
            ("a * b - c * d", ("-", ("*", A, B), ("*", C, D))),
        )

    def test_brackets(self):
        self.told(
            ("(a)", A), ("((a))", A), ("(-1)", num(-1)),
            ("(a + b) * c", ("*", ("+", A, B), C)),
            ("a * (b + c)", ("*", A, ("+", B, C))),
            ("a - (b - c)", ("-", A, ("-", B, C))),
            ("a * (b * c)", ("*", A, ("*", B, C))),
            ("(a - b) - c", ("-", ("-", A, B), C)),
        )

    def test_minus_ahead_of_numbers(self):
        self.told(
            ("a - 1", ("-", A, num(1))), ("a -1", ("-", A, num(1))), ("a-1", ("-", A, num(1))),
            ("a - -1", ("-", A, num(-1))), ("a--1", ("-", A, num(-1))), ("a - 0", ("-", A, num(0))),
            ("-1 * a", ("*", num(-1), A)), ("a * -1", ("*", A, num(-1))), ("-1 - -1", ("-", num(-1), num(-1))),
            ("1-1", ("-", num(1), num(1))),
        )


class Conditions(unittest.TestCase):
    def told(self, *pairs):
        for text, tree in pairs:
            with self.subTest(text):
                self.assertEqual(where(text), tree)

    def test_comparisons(self):
        for sign in ("=", "<", ">", "<=", ">="):
            self.assertEqual(where(f"a {sign} b"), (sign, A, B))
        self.told(
            ("a + 1 < b * 2", ("<", ("+", A, num(1)), ("*", B, num(2)))),
            ("1 = -1", ("=", num(1), num(-1))),
            ("u.a >= b", (">=", field("a", "u"), B)),
        )

    def test_not_and_or_in_this_turn(self):
        self.told(
            ("a = 1 and b < 2", ("and", IS, LESS)),
            ("a = 1 or b < 2", ("or", IS, LESS)),
            ("not a = 1", ("not", IS)),
            ("not a = 1 and b < 2", ("and", ("not", IS), LESS)),
            ("a = 1 and not b < 2", ("and", IS, ("not", LESS))),
            ("not a = 1 or b < 2", ("or", ("not", IS), LESS)),
            ("a = 1 or b < 2 and c > 3", ("or", IS, ("and", LESS, MORE))),
            ("a = 1 and b < 2 or c > 3", ("or", ("and", IS, LESS), MORE)),
            ("not not a = 1", ("not", ("not", IS))),
        )

    def test_of_several_the_first_ones_innermost(self):
        self.told(
            ("a = 1 and b < 2 and c > 3", ("and", ("and", IS, LESS), MORE)),
            ("a = 1 or b < 2 or c > 3", ("or", ("or", IS, LESS), MORE)),
            ("a = 1 or b < 2 or c > 3 or a = 1", ("or", ("or", ("or", IS, LESS), MORE), IS)),
            ("a = 1 and b < 2 or c > 3 and a = 1", ("or", ("and", IS, LESS), ("and", MORE, IS))),
        )

    def test_brackets_of_conditions(self):
        self.told(
            ("(a = 1)", IS), ("((a = 1))", IS),
            ("(a = 1 or b < 2) and c > 3", ("and", ("or", IS, LESS), MORE)),
            ("a = 1 and (b < 2 or c > 3)", ("and", IS, ("or", LESS, MORE))),
            ("a = 1 and (b < 2 and c > 3)", ("and", IS, ("and", LESS, MORE))),
            ("not (a = 1 and b < 2)", ("not", ("and", IS, LESS))),
            ("(not a = 1) and b < 2", ("and", ("not", IS), LESS)),
            ("not (not a = 1)", ("not", ("not", IS))),
        )

    def test_brackets_of_terms_in_conditions(self):
        self.told(
            ("(a) = 1", IS), ("((a)) = (1)", IS), ("((a) = (1))", IS), ("(((a)) = 1)", IS),
            ("(a + b) * c = 1", ("=", ("*", ("+", A, B), C), num(1))),
            ("((a + b) * c = 1)", ("=", ("*", ("+", A, B), C), num(1))),
            ("((a + b) * c - d) * 2 = 1",
             ("=", ("*", ("-", ("*", ("+", A, B), C), D), num(2)), num(1))),
            ("(a) + (b) < (c)", ("<", ("+", A, B), C)),
            ("((a) - b = 1 or (b) < 2)", ("or", ("=", ("-", A, B), num(1)), LESS)),
            ("not (a) = 1", ("not", IS)),
            ("not ((a) = 1 and (b < 2))", ("not", ("and", IS, LESS))),
        )


class Depths(unittest.TestCase):
    def test_twenty_within_one_another(self):
        self.assertEqual(term("(" * 20 + "a" + ")" * 20), A)
        self.assertEqual(where("(" * 20 + "a = 1" + ")" * 20), IS)
        self.assertEqual(where("(" * 20 + "a" + ")" * 20 + " = 1"), IS)
        self.assertEqual(where("(" * 10 + "(" * 10 + "a" + ")" * 10 + " = 1" + ")" * 10), IS)
        tree = IS
        for _ in range(20):
            tree = ("not", tree)
        self.assertEqual(where("not " * 20 + "a = 1"), tree)
        self.assertEqual(where("not (" * 10 + "a = 1" + ")" * 10), where("not " * 10 + "a = 1"))

    def test_beside_one_another_are_as_many_as_you_like(self):
        parts = ["(" * 20 + "a = 1" + ")" * 20, "not " * 20 + "a = 1", "(" * 20 + "a" + ")" * 20 + " = 1"] * 4
        self.assertEqual(where(" and ".join(parts)), where(" and ".join(["a = 1", "not " * 20 + "a = 1", "a = 1"] * 4)))
        self.assertEqual(term(" - ".join(["(" * 20 + "a" + ")" * 20] * 9)), term(" - ".join(["a"] * 9)))

    def test_many_parts(self):
        tree = read("sum " + " - ".join(["a"] * 5000) + " from t")[2][0]
        for _ in range(4999):
            self.assertEqual((tree[0], tree[2]), ("-", A))
            tree = tree[1]
        self.assertEqual(tree, A)
        tree = where(" and ".join(["a = 1"] * 5000))
        for _ in range(4999):
            self.assertEqual((tree[0], tree[2]), ("and", IS))
            tree = tree[1]
        self.assertEqual(tree, IS)


class Words(unittest.TestCase):
    def test_signs_without_blanks_about_them(self):
        self.assertEqual(
            read("pick a,-5*(b+c)from t where(a)<=1and b>=2by c first 3"),
            read("pick a , - 5 * ( b + c ) from t where ( a ) <= 1 and b >= 2 by c first 3"),
        )
        self.assertEqual(read("set t a=1,b=a-2where a<b"), read("set t a = 1 , b = a - 2 where a < b"))
        self.assertEqual(term("u.a"), term("u  .  a"))

    def test_letters_and_figures_side_by_side(self):
        self.assertEqual(read("put t1 2"), ("put", "t", (1, 2)))
        self.assertEqual(read("pick a from t first 3"), read("pick a from t first3"))
        self.assertEqual(where("1=1and 2=2"), ("and", ("=", num(1), num(1)), ("=", num(2), num(2))))

    def test_blanks(self):
        self.assertEqual(read("   begin"), ("begin",))
        self.assertEqual(read("begin   "), ("begin",))
        self.assertEqual(read("  put   t     1    2  "), ("put", "t", (1, 2)))

    def test_two_signs_in_one(self):
        self.assertEqual(where("a<=b"), ("<=", A, B))
        self.assertEqual(where("a>=-1"), (">=", A, num(-1)))


class AllTrees(unittest.TestCase):
    def test_however_much_in_brackets_and_blanks(self):
        source = random.Random(71)
        maker = Maker(source)
        for _ in range(1500):
            tree = maker.statement()
            text = maker.spaced(maker.wide_statement(tree))
            self.assertEqual(read(text), tree, text)


if __name__ == "__main__":
    unittest.main()
