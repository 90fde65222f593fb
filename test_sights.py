"""What lies within bounds: promise 11, and 6 with it."""

import copy
import itertools
import random
import unittest

import worlds
from granary.bounds import bounds
from granary.sights import is_in, is_wider
from granary.texts import read

FIELDS = ("k", "a", "b")
ROW = (5, -2, 0)


class IsIn(unittest.TestCase):
    def within(self, *told):
        for bounds_ in told:
            self.assertIs(is_in(ROW, FIELDS, bounds_), True, bounds_)

    def beyond(self, *told):
        for bounds_ in told:
            self.assertIs(is_in(ROW, FIELDS, bounds_), False, bounds_)

    def test_of_no_field(self):
        self.within({})
        self.assertIs(is_in((), (), {}), True)

    def test_open_on_either_side(self):
        self.within({"k": (5, None)}, {"k": (4, None)}, {"k": (None, 5)}, {"k": (None, 6)}, {"k": (None, None)})
        self.within({"a": (-2, None)}, {"a": (None, -2)}, {"b": (0, None)}, {"b": (None, 0)}, {"b": (-1, None)})
        self.beyond({"k": (6, None)}, {"k": (None, 4)}, {"a": (-1, None)}, {"a": (None, -3)}, {"b": (1, None)})
        self.beyond({"b": (None, -1)}, {"a": (0, None)}, {"k": (None, 0)})

    def test_closed(self):
        self.within({"k": (4, 6)}, {"k": (5, 6)}, {"k": (4, 5)}, {"a": (-999999, 999999)}, {"b": (-1, 1)})
        self.beyond({"k": (6, 9)}, {"k": (1, 4)}, {"a": (-1, 9)}, {"b": (1, 9)})

    def test_of_one_number(self):
        self.within({"k": (5, 5)}, {"a": (-2, -2)}, {"b": (0, 0)})
        self.beyond({"k": (4, 4)}, {"k": (6, 6)}, {"a": (2, 2)}, {"b": (1, 1)}, {"b": (-1, -1)})

    def test_of_several_fields(self):
        self.within({"k": (5, 5), "a": (None, 0), "b": (0, None)}, {"b": (0, 0), "k": (1, 9)})
        self.beyond({"k": (5, 5), "a": (0, None)}, {"a": (0, None), "k": (5, 5)})
        self.beyond({"k": (6, 6), "a": (-2, -2), "b": (0, 0)}, {"k": (5, 5), "a": (-2, -2), "b": (1, 1)})

    def test_none_is_not_in(self):
        for bounds_ in ({}, {"k": (None, None)}, {"k": (5, 5)}, None):
            self.assertIs(is_in(None, FIELDS, bounds_), False)

    def test_nothing_is_in_no_bounds(self):
        self.beyond(None)

    def test_fields_as_a_list(self):
        self.assertIs(is_in((1, 2), ["k", "a"], {"a": (2, 2)}), True)
        self.assertIs(is_in((1, 2), ["k", "a"], {"k": (2, 2)}), False)

    def test_what_is_handed_in_stays(self):
        told = {"k": (5, 5), "a": (None, 0)}
        before = copy.deepcopy(told)
        is_in(ROW, FIELDS, told)
        is_wider(told, {"k": (5, 5)})
        is_wider({"k": (5, 5)}, told)
        self.assertEqual(told, before)


class IsWider(unittest.TestCase):
    def wider(self, *pairs):
        """The first one of each pair is wider, and not the other way about."""
        for one, other in pairs:
            self.assertIs(is_wider(one, other), True, (one, other))
            self.assertIs(is_wider(other, one), False, (other, one))

    def apart(self, *pairs):
        for one, other in pairs:
            self.assertIs(is_wider(one, other), False, (one, other))
            self.assertIs(is_wider(other, one), False, (other, one))

    def test_themselves(self):
        for told in ({}, {"a": (1, 2)}, {"a": (1, None)}, {"a": (None, 2)}, {"a": (1, 1), "b": (None, 0)}, None):
            self.assertIs(is_wider(told, copy.deepcopy(told)), True)

    def test_no_bounds_at_all(self):
        self.wider(
            ({}, {"a": (1, 2)}), ({}, {"a": (1, None)}), ({}, {"a": (None, 2)}), ({}, {"a": (-5, 5), "b": (0, 0)}),
        )

    def test_by_one_at_each_edge(self):
        self.wider(
            ({"a": (0, 5)}, {"a": (1, 5)}), ({"a": (0, 5)}, {"a": (0, 4)}), ({"a": (0, 5)}, {"a": (1, 4)}),
            ({"a": (-1, None)}, {"a": (0, None)}), ({"a": (None, 0)}, {"a": (None, -1)}),
            ({"a": (None, 5)}, {"a": (0, 5)}), ({"a": (0, None)}, {"a": (0, 5)}),
            ({"a": (None, 5)}, {"a": (-999999, 5)}), ({"a": (0, None)}, {"a": (0, 999999)}),
        )
        self.apart(
            ({"a": (0, 5)}, {"a": (1, 6)}), ({"a": (0, 5)}, {"a": (6, 9)}), ({"a": (0, None)}, {"a": (None, 0)}),
            ({"a": (0, 0)}, {"a": (1, 1)}), ({"a": (0, None)}, {"a": (-1, 5)}), ({"a": (None, 5)}, {"a": (0, 6)}),
        )

    def test_fields_that_only_one_of_both_has(self):
        self.wider(
            ({"a": (0, 5)}, {"a": (0, 5), "b": (1, 1)}), ({"b": (None, 1)}, {"a": (0, 5), "b": (1, 1)}),
        )
        self.apart(
            ({"a": (0, 5)}, {"b": (0, 5)}), ({"a": (0, 5), "b": (1, 1)}, {"a": (1, 4)}),
            ({"a": (0, 5), "b": (0, 2)}, {"a": (1, 4), "c": (1, 1)}),
        )

    def test_several_fields(self):
        self.wider(({"a": (0, 5), "b": (0, 5)}, {"b": (0, 4), "a": (0, 5)}))
        self.apart(({"a": (0, 5), "b": (0, 5)}, {"a": (0, 6), "b": (0, 4)}))

    def test_none(self):
        self.wider(({}, None), ({"a": (1, 1)}, None), ({"a": (None, 2), "b": (1, 1)}, None))

    def test_bounds_that_let_nothing_by(self):
        self.wider(({"a": (1, 1)}, {"b": (3, 2)}), ({}, {"a": (1, 5), "b": (1, 0)}))
        self.assertIs(is_wider(None, {"a": (3, 2)}), True)
        self.assertIs(is_wider({"a": (3, 2)}, {"a": (2, 3)}), False)

    def test_fields_without_ends(self):
        self.assertIs(is_wider({"a": (None, None)}, {}), True)
        self.assertIs(is_wider({}, {"a": (None, None)}), True)
        self.assertIs(is_wider({"a": (None, None), "b": (1, 1)}, {"b": (1, 1)}), True)

    def test_against_trying_rows(self):
        ends = [None, {}]
        sides = [(low, high) for low in (None, -1, 0, 1) for high in (None, -1, 0, 1)
                 if low is None or high is None or low <= high]
        ends += [{"a": side} for side in sides] + [{"b": side} for side in sides]
        ends += [{"a": one, "b": other} for one in sides for other in sides]
        rows = list(itertools.product(range(-3, 4), repeat=2))
        lets = [{row for row in rows if is_in(row, ("a", "b"), told)} for told in ends]
        for one, many in zip(ends, lets):
            for other, few in zip(ends, lets):
                self.assertIs(is_wider(one, other), few <= many, (one, other))


class Within(unittest.TestCase):
    """Each row that fulfils a condition lies within what bounds tells of it."""

    def test_rows_at_and_beside_the_edges(self):
        fields = ("k", "a")
        for text in (
            "t.k = 3", "t.k < 3", "t.k > 3", "t.k <= 3", "t.k >= 3", "3 = t.k", "3 < t.k", "3 > t.k", "3 <= t.k",
            "3 >= t.k", "t.k > -3 and t.k < 3", "t.k >= 0 and 0 >= t.k", "t.k > 2 and t.k < 3", "t.k = 3 or t.k = 1",
            "not t.k < 3", "t.k < t.a", "t.k = 2 and not t.a = 1", "1 = 2", "1 = 1", "t.k > 1 and (t.a < 2 or 1 = 1)",
            "t.k > 1 and 2 > 3", "not 1 = 2 and t.a <= 0", "t.k >= 1 and t.a = 2 and t.k <= 1 and t.a >= 2",
        ):
            cond = read("count from t where " + text)[4]
            told = bounds(cond, "t")
            fulfils = eval("lambda r: " + worlds.spelled(cond))
            for row in itertools.product(range(-5, 6), repeat=2):
                if fulfils(worlds.named(("t",), (row,), {"t": fields})):
                    self.assertTrue(is_in(row, fields, told), (text, row))

    def test_rows_of_random_conditions(self):
        asker = worlds.Asker(random.Random(611))
        shapes = {"t": ("k", "a"), "u": ("m", "c")}
        rows = list(itertools.product(range(-5, 6), repeat=2))
        met = nothing = 0
        for _ in range(250):
            cond = asker.condition(("t", "u"), shapes)
            fulfils = eval("lambda r: " + worlds.spelled(cond))
            told = {table: bounds(cond, table) for table in shapes}
            nothing += told["t"] is None
            for one, other in itertools.product(rows[::3], rows[::5]):
                if fulfils(worlds.named(("t", "u"), (one, other), shapes)):
                    met += 1
                    self.assertTrue(is_in(one, shapes["t"], told["t"]), cond)
                    self.assertTrue(is_in(other, shapes["u"], told["u"]), cond)
        self.assertGreater(met, 1000)
        self.assertGreater(nothing, 10)


if __name__ == "__main__":
    unittest.main()
