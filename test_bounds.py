"""What a condition says of a table's fields: promise 6."""

import copy
import random
import unittest

import worlds
from granary.bounds import bounds
from granary.texts import read

SHAPES = {"t": ("a", "b", "c"), "u": ("a", "d")}
FAR = range(-30, 31)


def where(text):
    """The condition of a text, in which all fields have their tables."""
    return read("count from t where " + text)[4]


def told(text, table="t"):
    return bounds(where(text), table)


def allowed(sign, number, turned):
    """The numbers from FAR that stand so to a number, as Python tells it."""
    python = "==" if sign == "=" else sign
    text = f"({number}) {python} x" if turned else f"x {python} ({number})"
    return {x for x in FAR if eval(text, {"x": x})}


def by_trying(cond, table):
    """What bounds must tell of a condition of small numbers, by trying all of FAR."""
    sets = {}
    for sign, left, right in worlds.compared_by_ands(cond):
        kinds = (left[0], right[0])
        if kinds == ("num", "num") and not eval(worlds.spelled((sign, left, right))):
            return None
        if kinds == ("field", "num") and left[1] == table:
            sets[left[2]] = sets.get(left[2], set(FAR)) & allowed(sign, right[1], False)
        if kinds == ("num", "field") and right[1] == table:
            sets[right[2]] = sets.get(right[2], set(FAR)) & allowed(sign, left[1], True)
    if set() in sets.values():
        return None
    return {
        field: (None if min(kept) == FAR[0] else min(kept), None if max(kept) == FAR[-1] else max(kept))
        for field, kept in sets.items()
    }


class Bounds(unittest.TestCase):
    def same(self, *pairs):
        for text, other in pairs:
            with self.subTest(text):
                self.assertEqual(told(text), other)

    def test_no_condition_says_nothing(self):
        self.assertEqual(bounds(None, "t"), {})

    def test_each_sign_with_the_field_on_the_left(self):
        self.same(
            ("t.a = 5", {"a": (5, 5)}), ("t.a < 5", {"a": (None, 4)}), ("t.a > 5", {"a": (6, None)}),
            ("t.a <= 5", {"a": (None, 5)}), ("t.a >= 5", {"a": (5, None)}),
        )

    def test_each_sign_with_the_field_on_the_right(self):
        self.same(
            ("5 = t.a", {"a": (5, 5)}), ("5 < t.a", {"a": (6, None)}), ("5 > t.a", {"a": (None, 4)}),
            ("5 <= t.a", {"a": (5, None)}), ("5 >= t.a", {"a": (None, 5)}),
        )

    def test_numbers_below_0_and_at_their_ends(self):
        self.same(
            ("t.a = -5", {"a": (-5, -5)}), ("t.a < -5", {"a": (None, -6)}), ("-5 < t.a", {"a": (-4, None)}),
            ("t.a < 0", {"a": (None, -1)}), ("t.a > -1", {"a": (0, None)}), ("t.a > 0", {"a": (1, None)}),
            ("t.a > 999999", {"a": (1000000, None)}), ("t.a < -999999", {"a": (None, -1000000)}),
            ("t.a >= -999999 and t.a <= 999999", {"a": (-999999, 999999)}),
        )

    def test_several_comparisons_of_one_field(self):
        self.same(
            ("t.a > 1 and t.a < 9", {"a": (2, 8)}), ("t.a < 9 and 1 < t.a", {"a": (2, 8)}),
            ("t.a > 1 and t.a >= 4 and t.a > 2", {"a": (4, None)}), ("t.a < 1 and t.a < 4", {"a": (None, 0)}),
            ("t.a < 4 and t.a < 1", {"a": (None, 0)}), ("t.a = 3 and t.a <= 9 and t.a >= -9", {"a": (3, 3)}),
            ("t.a <= 9 and t.a = 3", {"a": (3, 3)}), ("t.a = 0 and t.a <= 0 and t.a >= 0", {"a": (0, 0)}),
            ("t.a >= 0 and t.a >= -1", {"a": (0, None)}), ("t.a <= 0 and t.a <= 1", {"a": (None, 0)}),
        )

    def test_several_fields_and_other_tables(self):
        self.same(
            ("t.a > 1 and t.b = 2 and t.c <= 3", {"a": (2, None), "b": (2, 2), "c": (None, 3)}),
            ("t.a > 1 and u.a = 5 and u.d < 3", {"a": (2, None)}), ("u.a = 5", {}),
        )
        self.assertEqual(told("t.a > 1 and u.a = 5 and u.d < 3", "u"), {"a": (5, 5), "d": (None, 2)})
        self.assertEqual(told("t.a > 1", "u"), {})

    def test_what_stands_beneath_not_and_or_says_nothing(self):
        self.same(
            ("not t.a = 1", {}), ("t.a = 1 or t.b = 2", {}), ("t.a = 1 or t.a = 1", {}), ("not not t.a = 1", {}),
            ("not (t.a = 1 and t.b = 2)", {}), ("(t.a = 1 or t.b = 2) and t.c = 3", {"c": (3, 3)}),
            ("t.c = 3 and not t.a = 1", {"c": (3, 3)}), ("t.a = 1 and t.b = 2 or t.c = 3", {}),
            ("not 1 = 2", {}), ("1 = 2 or t.a = 1", {}), ("not (1 = 2 and t.a = 1)", {}),
            ("t.a = 1 and (t.a = 2 or t.b = 1)", {"a": (1, 1)}), ("not t.a = 2 and t.a = 1", {"a": (1, 1)}),
        )

    def test_what_stands_beneath_and_however_deep(self):
        self.same(
            ("t.a > 1 and (t.b > 2 and (t.c > 3 and (t.a < 7 and t.b < 8)))",
             {"a": (2, 6), "b": (3, 7), "c": (4, None)}),
            ("((t.a > 1 and t.b > 2) and t.c > 3) and t.a < 7", {"a": (2, 6), "b": (3, None), "c": (4, None)}),
        )
        many = " and ".join(f"t.a > {number}" for number in range(5000))
        self.assertEqual(told(many), {"a": (5000, None)})

    def test_a_field_with_what_is_no_number(self):
        self.same(
            ("t.a = 1 + 2", {}), ("t.a < t.b", {}), ("t.a = t.a", {}), ("t.a = u.a", {}), ("t.a + 1 = 3", {}),
            ("t.a * 1 = 3", {}), ("1 + 2 = t.a", {}), ("t.a = 1 * 1 and t.b = 1", {"b": (1, 1)}),
        )

    def test_two_numbers_compared(self):
        for text in ("1 = 1", "1 < 2", "2 > 1", "1 <= 1", "1 <= 2", "1 >= 1", "2 >= 1", "-2 < -1"):
            self.assertEqual(told(text), {}, text)
            self.assertEqual(told("t.a = 1 and " + text), {"a": (1, 1)}, text)
        for text in ("1 = 2", "1 < 1", "2 < 1", "1 > 1", "1 > 2", "2 <= 1", "1 >= 2", "-1 < -2"):
            self.assertIsNone(told(text), text)
            self.assertIsNone(told("t.a = 1 and " + text), text)
            self.assertIsNone(told(text + " and u.a = 1"), text)
            self.assertIsNone(told(text, "u"), text)

    def test_terms_of_numbers_alone_are_no_numbers(self):
        self.same(("1 + 1 = 3", {}), ("1 = 1 + 1", {}), ("t.a = 1 and 2 * 2 < 3", {"a": (1, 1)}))

    def test_a_least_beyond_its_greatest(self):
        self.same(
            ("t.a > 5 and t.a < 6", None), ("t.a >= 5 and t.a <= 5", {"a": (5, 5)}),
            ("t.a > 5 and t.a < 7", {"a": (6, 6)}), ("t.a >= 5 and t.a <= 4", None),
            ("t.a = 1 and t.a = 2", None), ("t.a = 1 and t.b = 2", {"a": (1, 1), "b": (2, 2)}),
            ("t.b = 1 and t.a > 0 and t.a < 0", None), ("t.a > 0 and t.a < 0 and t.b = 1", None),
            ("t.a <= -1 and t.a >= 0", None),
        )

    def test_another_table_s_fields_do_not_hinder(self):
        self.assertEqual(told("u.a > 5 and u.a < 6 and t.a = 1"), {"a": (1, 1)})
        self.assertIsNone(told("u.a > 5 and u.a < 6 and t.a = 1", "u"))
        self.assertEqual(told("u.a = 5 and t.a = 6"), {"a": (6, 6)})

    def test_against_trying_all_numbers(self):
        asker = worlds.Asker(random.Random(6))
        for _ in range(3000):
            cond = asker.condition(("t", "u"), SHAPES)
            for table in SHAPES:
                self.assertEqual(bounds(cond, table), by_trying(cond, table), worlds.spelled(cond))


class Kept(unittest.TestCase):
    def test_the_condition_stays_and_what_is_told_may_be_changed(self):
        cond = where("t.a = 1 and (t.b > 2 or t.c = 3) and t.c < 4")
        before = copy.deepcopy(cond)
        first = bounds(cond, "t")
        first["a"] = None
        first["x"] = (1, 1)
        self.assertEqual(cond, before)
        self.assertEqual(bounds(cond, "t"), {"a": (1, 1), "c": (None, 3)})
        bounds(None, "t")["a"] = (1, 1)
        self.assertEqual(bounds(None, "t"), {})


if __name__ == "__main__":
    unittest.main()
