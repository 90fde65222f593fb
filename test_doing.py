"""What questions tell by plans: promises 5 and 9."""

import copy
import random
import unittest

import worlds
from granary.doing import answer, answer_by
from granary.errors import BadPlan, StoreError
from granary.names import checked
from granary.plans import all_plans
from granary.texts import read

SHAPES = {"t": ("k", "a", "b"), "u": ("m", "c"), "v": ("x",)}
ROWS = {
    "t": [(3, 10, -1), (-2, 20, 5), (7, 10, 0), (0, -5, 5)],
    "u": [(10, 3), (20, 3), (-5, 0)],
    "v": [],
}
INDEXES = (("t", "a"), ("u", "c"))


class Questions(unittest.TestCase):
    def told(self, text, shapes=None, rows=None, indexes=INDEXES):
        """What a question tells; each plan of it must tell the same."""
        shapes, rows = shapes or SHAPES, rows or ROWS
        tree = checked(read(text), shapes)
        expected = worlds.asked(tree, shapes, rows)
        for plan in all_plans(tree[3], tree[4], shapes, indexes):
            with self.subTest(text, plan=plan):
                self.assertEqual(answer(tree, plan, shapes, worlds.View(shapes, rows, indexes)), expected)
                by = answer_by(tree, plan, shapes, indexes, worlds.View(shapes, rows, indexes))
                self.assertEqual(by, expected)
        return expected

    def same(self, *pairs):
        for text, other in pairs:
            self.assertEqual(self.told(text), other, text)

    def test_pick_in_the_order_of_keys(self):
        self.same(
            ("pick k from t", [(-2,), (0,), (3,), (7,)]), ("pick m, c from u", [(-5, 0), (10, 3), (20, 3)]),
            ("pick x from v", []),
        )

    def test_pick_of_several_tables_the_first_table_s_first(self):
        self.same(
            ("pick k, m from t and u where k > 0", [(3, -5), (3, 10), (3, 20), (7, -5), (7, 10), (7, 20)]),
            ("pick k, m from u and t where k > 0", [(3, -5), (7, -5), (3, 10), (7, 10), (3, 20), (7, 20)]),
            ("pick k, m from t and u where a = m", [(-2, 20), (0, -5), (3, 10), (7, 10)]),
            ("pick k, m from u and t where a = m", [(0, -5), (3, 10), (7, 10), (-2, 20)]),
            ("pick k from t and v", []),
        )

    def test_by_sorts_rising_and_keeps_the_order_of_what_is_like(self):
        self.same(
            ("pick k from t by a", [(0,), (3,), (7,), (-2,)]), ("pick k from t by b", [(3,), (7,), (-2,), (0,)]),
            ("pick k from t by 0 - k", [(7,), (3,), (0,), (-2,)]),
            ("pick k from t by a, 0 - k", [(0,), (7,), (3,), (-2,)]),
            ("pick k from t by b, a", [(3,), (7,), (0,), (-2,)]), ("pick k from t by 1", [(-2,), (0,), (3,), (7,)]),
            ("pick k, m from t and u where c = 3 and b = 5 by m", [(-2, 10), (0, 10), (-2, 20), (0, 20)]),
            ("pick k, m from t and u where a = m by c, 0 - b, k", [(0, -5), (-2, 20), (7, 10), (3, 10)]),
        )

    def test_first(self):
        self.same(
            ("pick k from t first 0", []), ("pick k from t first 1", [(-2,)]),
            ("pick k from t first 3", [(-2,), (0,), (3,)]), ("pick k from t first 4", [(-2,), (0,), (3,), (7,)]),
            ("pick k from t first 999999", [(-2,), (0,), (3,), (7,)]),
            ("pick k from t by a first 2", [(0,), (3,)]), ("pick k from t by 0 - k first 1", [(7,)]),
            ("pick x from v first 2", []),
        )

    def test_terms(self):
        self.same(
            ("pick k, a + b, a - b, a * b from t where k = 3", [(3, 9, 11, -10)]),
            ("pick a - b - k, a - (b - k), a + b * k, (a + b) * k, -2 from t where k = 3", [(8, 14, 7, 27, -2)]),
            ("pick 1 from t", [(1,), (1,), (1,), (1,)]), ("pick k, k from t first 1", [(-2, -2)]),
            ("pick a * 999999 * 999999 from t where k = -2", [(19999960000020,)]),
            ("pick k * m from t and u where c = 0", [(10,), (0,), (-15,), (-35,)]),
        )

    def test_conditions(self):
        self.same(
            ("pick k from t where a = 10 and b = 0", [(7,)]), ("pick k from t where a = 20 or b = -1", [(-2,), (3,)]),
            ("pick k from t where not a = 10", [(-2,), (0,)]), ("pick k from t where not not a = 10", [(3,), (7,)]),
            ("pick k from t where not a = 10 and b = 5", [(-2,), (0,)]),
            ("pick k from t where not (a = 10 and b = 0)", [(-2,), (0,), (3,)]),
            ("pick k from t where a = 10 or a = 20 and b = 0", [(3,), (7,)]),
            ("pick k from t where (a = 10 or a = 20) and b = 0", [(7,)]),
            ("pick k from t where k < 3", [(-2,), (0,)]), ("pick k from t where k <= 3", [(-2,), (0,), (3,)]),
            ("pick k from t where k > 3", [(7,)]), ("pick k from t where k >= 3", [(3,), (7,)]),
            ("pick k from t where a + b < k * 3", [(7,)]), ("pick k from t where 1 = 1", [(-2,), (0,), (3,), (7,)]),
            ("pick k from t where 1 = 2", []), ("pick k from t where k > 3 and k < 4", []),
        )

    def test_count_sum_least_and_most(self):
        self.same(
            ("count from t", 4), ("count from t and u", 12), ("count from t where a = 10", 2), ("count from v", 0),
            ("sum a from t", 35), ("sum a * c from t and u", 35 * 6), ("sum k from t where a = 10", 10),
            ("least a from t", -5), ("most a from t", 20), ("least k * a from t", -40), ("most b - k from t", 7),
            ("sum 2 from t and u where a = m", 8), ("least k from t where k > 0", 3), ("most k from t where k < 0", -2),
        )

    def test_of_no_rows(self):
        self.same(
            ("sum x from v", 0), ("least x from v", None), ("most x from v", None), ("count from v and t", 0),
            ("sum k from t where k = 1", 0), ("least k from t where k = 1", None), ("most k from t and v", None),
            ("count from t where 1 > 2", 0), ("least 5 from v", None), ("sum 5 from t where a = 7", 0),
        )

    def test_three_tables(self):
        shapes = {"a": ("k", "x"), "b": ("k", "y"), "c": ("k", "z")}
        rows = {"a": [(1, 2), (2, 1), (3, 3)], "b": [(1, 5), (2, 6), (4, 1)], "c": [(5, 2), (6, 1), (7, 1)]}
        indexes = [("a", "x"), ("b", "y"), ("c", "z")]
        ask = "from a and b and c where a.x = b.k and y = c.k"
        self.assertEqual(self.told("pick a.k, b.k, c.k " + ask, shapes, rows, indexes), [(1, 2, 6), (2, 1, 5)])
        self.assertEqual(self.told("sum z * 10 + a.k " + ask, shapes, rows, indexes), 33)
        self.assertEqual(self.told("pick c.k, a.k " + ask + " by 0 - a.k first 1", shapes, rows, indexes), [(5, 2)])
        self.assertEqual(self.told("count from a and b and c", shapes, rows, indexes), 27)

    def test_a_key_looked_up_that_is_beyond_all_rows(self):
        shapes, rows = {"t": ("k", "a"), "u": ("m", "c")}, {"t": [(1, 999999), (2, 3)], "u": [(9, 1), (-1, 999999)]}
        self.assertEqual(self.told("pick k, m from t and u where m = a * a", shapes, rows, [("u", "c")]), [(2, 9)])
        self.assertEqual(self.told("pick k, m from t and u where c = a * a", shapes, rows, [("u", "c")]), [])
        self.assertEqual(self.told("pick k, m from t and u where c = a * 1", shapes, rows, [("u", "c")]), [(1, -1)])

    def test_many_parts(self):
        for text, expected in (
            ("pick k" + " + a - a" * 2000 + " from t where " + " and ".join(["a + b < 19"] * 2000), [(0,), (3,), (7,)]),
            ("count from t where " + " or ".join(["a = 1"] * 3000), 0),
            ("sum a" + " * 1" * 3000 + " from t", 35),
        ):
            tree = checked(read(text), SHAPES)
            self.assertEqual(answer(tree, (("all", "t"),), SHAPES, worlds.View(SHAPES, ROWS)), expected)

    def test_random_questions_by_each_plan(self):
        asker = worlds.Asker(random.Random(9))
        for _ in range(700):
            shapes, rows, indexes = asker.world()
            tree = asker.question(shapes)
            expected = worlds.asked(tree, shapes, rows)
            for plan in all_plans(tree[3], tree[4], shapes, indexes)[:60]:
                told = answer(tree, plan, shapes, worlds.View(shapes, rows, indexes))
                self.assertEqual(told, expected, (tree, plan, rows))


class Plans(unittest.TestCase):
    """That a plan is gone as it is told."""

    def ways(self, text, *plan):
        view = worlds.View(SHAPES, ROWS, INDEXES)
        answer(checked(read(text), SHAPES), plan, SHAPES, view)
        return view.ways

    def test_each_way_is_gone(self):
        self.assertEqual(self.ways("count from t", ("all", "t")), [("all", "t")])
        self.assertEqual(self.ways("count from t where k > 1", ("key", "t", 2, None)), [("key", "t", 2, None)])
        self.assertEqual(self.ways("count from t where a < 1", ("by", "t", "a", None, 0)), [("by", "t", "a", None, 0)])
        self.assertEqual(self.ways("count from t where 1 = 2", ("none", "t")), [])

    def test_a_way_by_a_term_is_gone_for_each_row_ahead(self):
        term = ("field", "t", "a")
        ways = self.ways("count from t and u where c = a", ("all", "t"), ("byof", "u", "c", term))
        self.assertEqual(ways[0], ("all", "t"))
        self.assertEqual(sorted(ways[1:]), sorted(("by", "u", "c", row[1], row[1]) for row in ROWS["t"]))

    def test_an_index_that_is_not_there(self):
        view = worlds.View(SHAPES, ROWS)
        with self.assertRaises(BadPlan):
            answer(checked(read("count from t where a = 10"), SHAPES), (("by", "t", "a", 10, 10),), SHAPES, view)


class AnswerBy(unittest.TestCase):
    def by(self, text, plan, indexes=INDEXES):
        tree = checked(read(text), SHAPES)
        return answer_by(tree, plan, SHAPES, indexes, worlds.View(SHAPES, ROWS, INDEXES))

    def refused(self, text, *plan, indexes=INDEXES):
        with self.assertRaises(BadPlan) as caught:
            self.by(text, plan, indexes)
        self.assertIsInstance(caught.exception, StoreError)

    def test_plans_of_it(self):
        self.assertEqual(self.by("pick k from t where a = 10", (("all", "t"),)), [(3,), (7,)])
        self.assertEqual(self.by("pick k from t where a = 10", (("by", "t", "a", 10, 10),)), [(3,), (7,)])
        term = ("field", "u", "c")
        self.assertEqual(self.by("count from t and u where k = c", (("all", "u"), ("keyof", "t", term))), 3)

    def test_what_is_no_plan_of_it(self):
        text = "pick k from t where a = 10"
        self.refused(text)
        self.refused(text, ("key", "t", None, None))
        self.refused(text, ("key", "t", 10, 10))
        self.refused(text, ("by", "t", "a", 10, 11))
        self.refused(text, ("by", "t", "a", 9, 10))
        self.refused(text, ("by", "t", "a", 10, None))
        self.refused(text, ("by", "t", "b", 10, 10))
        self.refused(text, ("by", "u", "a", 10, 10))
        self.refused(text, ("none", "t"))
        self.refused(text, ("all", "u"))
        self.refused(text, ("all", "t"), ("all", "t"))
        self.refused(text, ("all", "t"), ("all", "u"))
        self.refused(text, ("by", "t", "a", 10, 10), indexes=())
        self.refused(text, ("by", "t", "a", 10, 10), indexes=[("u", "c")])

    def test_none_alone(self):
        self.assertEqual(self.by("count from t where 1 = 2", (("none", "t"),)), 0)
        self.refused("count from t where 1 = 2", ("all", "t"))

    def test_terms_and_turns(self):
        text = "count from t and u where k = c and a = m"
        one, other = ("field", "u", "c"), ("field", "u", "m")
        self.assertEqual(self.by(text, (("all", "u"), ("keyof", "t", one))), 2)
        self.refused(text, ("keyof", "t", one), ("all", "u"))
        self.refused(text, ("all", "u"), ("keyof", "t", other))
        self.refused(text, ("all", "u"), ("keyof", "t", ("+", one, ("num", 0))))
        self.refused(text, ("all", "u"), ("keyof", "t", ("field", "", "c")))
        self.refused(text, ("all", "u"), ("byof", "t", "k", one))
        self.refused(text, ("all", "u"), ("byof", "t", "b", other))
        self.refused(text, ("all", "u"))

    def test_terms_too_deep_to_be_compared_as_trees(self):
        text = "count from t and u where k = c" + " + c" * 3000
        plan = all_plans(("t", "u"), checked(read(text), SHAPES)[4], SHAPES, ())[-1]
        self.assertEqual(plan[1][0], "keyof")
        self.assertEqual(self.by(text, plan, ()), 1)
        self.refused(text + " + c", *plan, indexes=())


class Kept(unittest.TestCase):
    def test_what_is_handed_in_stays_and_what_is_told_may_be_changed(self):
        tree = checked(read("pick k, m from t and u where c = 3 and a > 0 by b first 9"), SHAPES)
        shapes, indexes = {table: list(fields) for table, fields in SHAPES.items()}, list(INDEXES)
        plans = all_plans(tree[3], tree[4], shapes, indexes)
        before = copy.deepcopy((tree, plans, shapes, indexes))
        view = worlds.View(SHAPES, ROWS, INDEXES)
        for plan in plans:
            first = answer(tree, plan, shapes, view)
            kept = list(first)
            first.clear()
            self.assertEqual(answer(tree, plan, shapes, view), kept)
            self.assertEqual(answer_by(tree, plan, shapes, indexes, view), kept)
        self.assertEqual((tree, plans, shapes, indexes), before)
        for table, rows in ROWS.items():
            self.assertEqual(view.all(table), sorted(rows))
        self.assertEqual(view.noted, [])


if __name__ == "__main__":
    unittest.main()
