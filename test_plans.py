"""Plans and what they cost: promises 7 and 8."""

import copy
import itertools
import random
import unittest

import worlds
from granary.bounds import bounds
from granary.plans import all_plans, best, cost
from granary.texts import read

SHAPES = {"t": ("k", "a", "b"), "u": ("k", "c"), "v": ("x", "y", "z", "w")}
INDEXES = (("t", "a"), ("t", "b"), ("u", "c"), ("v", "z"))


def where(text):
    """The condition of a text, in which all fields have their tables."""
    return read("count from t where " + text)[4]


def told(text, tables="t", indexes=()):
    """All plans of a condition's text, or of none."""
    return all_plans(tuple(tables.split()), where(text) if text else None, SHAPES, indexes)


def field(name):
    table, _, own = name.partition(".")
    return ("field", table, own)


def fields_of(term):
    """The tables of the fields in a term."""
    if term[0] == "num":
        return set()
    if term[0] == "field":
        return {term[1]}
    return fields_of(term[1]) | fields_of(term[2])


def lookups(table, ahead, cond, shapes, indexes):
    """The ways by a comparison with terms of tables ahead, in turn."""
    for sign, *sides in worlds.compared_by_ands(cond):
        for one, other in (sides, sides[::-1]):
            if sign == "=" and one[:2] == ("field", table) and fields_of(other) and fields_of(other) <= set(ahead):
                if one[2] == shapes[table][0]:
                    yield ("keyof", table, other)
                elif (table, one[2]) in indexes:
                    yield ("byof", table, one[2], other)


def ways_in(order, cond, shapes, indexes):
    """The lists of ways of all tables of an order."""
    for at, table in enumerate(order):
        told = bounds(cond, table)
        if told is None:
            yield [("none", table)]
            continue
        ways = [("all", table)]
        ways += [("key", table, *told[name]) for name in shapes[table][:1] if name in told]
        ways += [("by", table, name, *told[name]) for name in shapes[table][1:]
                 if name in told and (table, name) in indexes]
        yield ways + list(lookups(table, order[:at], cond, shapes, indexes))


def plans_told(tables, cond, shapes, indexes):
    """All plans, another way than the program tells them."""
    orders = itertools.permutations(tables)
    return [plan for order in orders for plan in itertools.product(*ways_in(order, cond, shapes, indexes))]


class OneTable(unittest.TestCase):
    def test_no_index(self):
        self.assertEqual(told(""), [(("all", "t"),)])
        self.assertEqual(told("t.a = 1"), [(("all", "t"),)])
        self.assertEqual(told("t.k = 1"), [(("all", "t"),), (("key", "t", 1, 1),)])
        self.assertEqual(told("t.k > 1"), [(("all", "t"),), (("key", "t", 2, None),)])
        self.assertEqual(told("t.k < 1"), [(("all", "t"),), (("key", "t", None, 0),)])

    def test_indexes(self):
        self.assertEqual(told("", indexes=INDEXES), [(("all", "t"),)])
        self.assertEqual(told("t.a = 1", indexes=INDEXES), [(("all", "t"),), (("by", "t", "a", 1, 1),)])
        self.assertEqual(told("t.a > 1", indexes=[("t", "b")]), [(("all", "t"),)])
        plans = told("t.a > 1 and t.a < 9", indexes=[("t", "a")])
        self.assertEqual(plans, [(("all", "t"),), (("by", "t", "a", 2, 8),)])

    def test_indexes_of_other_tables(self):
        self.assertEqual(told("t.a = 1", indexes=(("u", "a"), ("v", "a"), ("u", "c"))), [(("all", "t"),)])

    def test_by_in_the_order_of_fields(self):
        plans = [
            (("all", "t"),), (("key", "t", None, 3),), (("by", "t", "a", 2, 2),), (("by", "t", "b", 1, None),),
        ]
        self.assertEqual(told("t.b >= 1 and t.a = 2 and t.k <= 3", indexes=INDEXES), plans)
        self.assertEqual(told("t.k <= 3 and t.a = 2 and t.b >= 1", indexes=INDEXES[::-1]), plans)

    def test_none_alone(self):
        self.assertEqual(told("t.k = 1 and t.k = 2", indexes=INDEXES), [(("none", "t"),)])
        self.assertEqual(told("t.a = 1 and 1 = 2", indexes=INDEXES), [(("none", "t"),)])

    def test_no_way_by_its_own_fields_or_numbers(self):
        self.assertEqual(told("t.k = t.a and t.a = t.b", indexes=INDEXES), [(("all", "t"),)])
        self.assertEqual(told("t.k = 1 + 2 and t.a = 2 * 3", indexes=INDEXES), [(("all", "t"),)])

    def test_what_stands_beneath_or_and_not_is_no_way(self):
        self.assertEqual(told("t.k = 1 or t.a = 2", indexes=INDEXES), [(("all", "t"),)])
        self.assertEqual(told("not t.k = 1", indexes=INDEXES), [(("all", "t"),)])


class SeveralTables(unittest.TestCase):
    def test_the_orders_of_tables_turn_the_first_slowest(self):
        for tables in ("t u", "u t", "t u v", "v t u", "u v t"):
            orders = list(itertools.permutations(tables.split()))
            self.assertEqual(told("", tables), [tuple(("all", table) for table in order) for order in orders])

    def test_two_orders(self):
        self.assertEqual(told("", "u t"), [(("all", "u"), ("all", "t")), (("all", "t"), ("all", "u"))])

    def test_ways_turn_the_first_table_s_slowest(self):
        ways_t = [("all", "t"), ("key", "t", 1, 1), ("by", "t", "b", 2, None)]
        ways_u = [("all", "u"), ("key", "u", None, 5), ("by", "u", "c", 3, 3)]
        plans = told("t.k = 1 and t.b > 1 and u.k <= 5 and u.c = 3", "t u", INDEXES)
        self.assertEqual(plans, [
            *[(one, other) for one in ways_t for other in ways_u],
            *[(other, one) for other in ways_u for one in ways_t],
        ])

    def test_keyof(self):
        plans = [
            (("all", "t"), ("all", "u")), (("all", "t"), ("keyof", "u", field("t.a"))), (("all", "u"), ("all", "t")),
        ]
        self.assertEqual(told("t.a = u.k", "t u"), plans)
        self.assertEqual(told("u.k = t.a", "t u"), plans)

    def test_byof(self):
        plans = [
            (("all", "t"), ("all", "u")), (("all", "t"), ("byof", "u", "c", field("t.b"))),
            (("all", "u"), ("all", "t")),
        ]
        self.assertEqual(told("t.b = u.c", "t u", [("u", "c")]), plans)
        self.assertEqual(told("u.c = t.b", "t u", [("u", "c")]), plans)
        self.assertEqual(told("u.c = t.b", "t u"), [plans[0], plans[2]])
        self.assertEqual(told("u.c = t.b", "t u", [("t", "c"), ("v", "c")]), [plans[0], plans[2]])

    def test_of_one_that_may_stand_both_ways_about_each_order_has_its_own(self):
        self.assertEqual(told("u.k = t.k", "t u"), [
            (("all", "t"), ("all", "u")), (("all", "t"), ("keyof", "u", field("t.k"))),
            (("all", "u"), ("all", "t")), (("all", "u"), ("keyof", "t", field("u.k"))),
        ])

    def test_by_comparisons_in_turn_also_like_ones(self):
        plans = told("u.c = t.b and u.k = t.a and t.a = u.k and u.c = t.b + 1 and u.k = t.a", "t u", [("u", "c")])
        ways = [
            ("all", "u"), ("byof", "u", "c", field("t.b")), ("keyof", "u", field("t.a")), ("keyof", "u", field("t.a")),
            ("byof", "u", "c", ("+", field("t.b"), ("num", 1))), ("keyof", "u", field("t.a")),
        ]
        self.assertEqual(plans, [*[(("all", "t"), way) for way in ways], (("all", "u"), ("all", "t"))])

    def test_all_kinds_of_ways_in_turn(self):
        text = "u.c = t.a and u.k = t.b and u.c >= -4 and u.k > 0 and u.k < 7"
        ways = [
            ("all", "u"), ("key", "u", 1, 6), ("by", "u", "c", -4, None), ("byof", "u", "c", field("t.a")),
            ("keyof", "u", field("t.b")),
        ]
        plans = told(text, "t u", [("u", "c")])
        self.assertEqual(plans[:5], [(("all", "t"), way) for way in ways])
        self.assertEqual(plans[5:], [(way, ("all", "t")) for way in ways[:3]])

    def test_terms_of_tables_ahead_alone(self):
        term = ("*", field("t.a"), ("+", field("v.x"), ("num", 2)))
        plans = told("u.k = t.a * (v.x + 2)", "t u v")
        keyed = [plan for plan in plans if any(way[0] == "keyof" for way in plan)]
        self.assertEqual(keyed, [
            (("all", "t"), ("all", "v"), ("keyof", "u", term)), (("all", "v"), ("all", "t"), ("keyof", "u", term)),
        ])

    def test_one_field_of_a_table_ahead_at_least(self):
        for text in ("u.k = 3 * 3", "u.k = u.c", "u.k = t.a + u.c", "u.k = u.k", "u.k + 1 = t.a", "u.k < t.a"):
            self.assertEqual(told(text, "t u", [("u", "c")]), told("", "t u"), text)

    def test_only_tables_ahead_in_the_plan(self):
        plans = told("v.z = u.c and u.k = t.a", "t u v", [("v", "z")])
        keyed = {tuple(way[:2] for way in plan) for plan in plans}
        self.assertIn((("all", "t"), ("keyof", "u"), ("byof", "v")), keyed)
        self.assertIn((("all", "u"), ("byof", "v"), ("all", "t")), keyed)
        for plan in plans:
            tables = [way[1] for way in plan]
            for way in plan:
                if way[0] == "keyof":
                    self.assertLess(tables.index("t"), tables.index("u"))
                if way[0] == "byof":
                    self.assertLess(tables.index("u"), tables.index("v"))

    def test_none_of_one_table_only(self):
        plans = told("u.k > 3 and u.k < 4 and u.k = t.a and t.k = 1", "t u", [("u", "c")])
        self.assertEqual(plans, [
            (("all", "t"), ("none", "u")), (("key", "t", 1, 1), ("none", "u")),
            (("none", "u"), ("all", "t")), (("none", "u"), ("key", "t", 1, 1)),
        ])
        plans = told("1 > 1 and u.k = t.a", "t u")
        self.assertEqual(plans, [(("none", "t"), ("none", "u")), (("none", "u"), ("none", "t"))])

    def test_beneath_or_and_not_no_keyof(self):
        self.assertEqual(told("not u.k = t.a", "t u"), told("", "t u"))
        self.assertEqual(told("u.k = t.a or u.k = t.b", "t u"), told("", "t u"))
        plans = told("(1 = 1 and (u.k = t.a)) and not t.b = 1", "t u")
        self.assertIn((("all", "t"), ("keyof", "u", field("t.a"))), plans)

    def test_against_another_teller(self):
        asker = worlds.Asker(random.Random(7))
        for _ in range(1500):
            shapes, _, indexes = asker.world()
            _, _, _, tables, cond, _, _ = asker.question(shapes)
            self.assertEqual(all_plans(tables, cond, shapes, indexes), plans_told(tables, cond, shapes, indexes))

    def test_long_terms(self):
        term = "t.a" + " + t.b" * 3000
        plans = told(f"u.k = {term} and {term} = u.k", "t u")
        self.assertEqual([[way[0] for way in plan] for plan in plans], [
            ["all", "all"], ["all", "keyof"], ["all", "keyof"], ["all", "all"],
        ])


class Cost(unittest.TestCase):
    def of(self, way, *pairs):
        for many, expected in pairs:
            self.assertEqual(cost((way,), {"t": many}), expected, (way, many))

    def test_all_and_none(self):
        self.of(("all", "t"), (0, 0), (1, 1), (7, 7), (1000, 1000))
        self.of(("none", "t"), (0, 0), (1, 0), (1000, 0))

    def test_key_with_no_end(self):
        self.of(("key", "t", None, None), (0, 0), (1, 1), (10, 10))

    def test_key_with_one_end(self):
        for way in (("key", "t", 5, None), ("key", "t", None, -5), ("key", "t", 0, None), ("key", "t", None, 0)):
            self.of(way, (0, 0), (1, 1), (2, 1), (3, 1), (4, 2), (6, 2), (7, 3), (100, 34))

    def test_key_with_two_ends(self):
        self.of(("key", "t", 5, 5), (0, 0), (1, 1), (2, 1), (100, 1))
        self.of(("key", "t", 5, 9), (0, 0), (4, 4), (5, 5), (6, 5), (100, 5))
        self.of(("key", "t", -2, 0), (2, 2), (3, 3), (4, 3))
        self.of(("key", "t", -999999, 999999), (7, 7), (2000000, 1999999))

    def test_ends_with_no_number_between(self):
        self.of(("key", "t", 5, 4), (0, 0), (9, 0))
        self.of(("key", "t", 5, -5), (0, 0), (9, 0))
        self.of(("by", "t", "a", 5, -5), (0, 0), (9, 1))

    def test_by_is_1_more(self):
        self.of(("by", "t", "a", None, None), (0, 0), (1, 1), (10, 10))
        self.of(("by", "t", "a", 5, None), (0, 0), (1, 1), (2, 2), (3, 2), (4, 3), (6, 3), (7, 4), (100, 35))
        self.of(("by", "t", "a", None, 5), (0, 0), (1, 1), (2, 2), (3, 2), (4, 3), (100, 35))
        self.of(("by", "t", "a", 5, 5), (0, 0), (1, 1), (2, 2), (3, 2), (100, 2))
        self.of(("by", "t", "a", 5, 9), (0, 0), (5, 5), (6, 6), (7, 6), (100, 6))

    def test_keyof_and_byof(self):
        self.of(("keyof", "t", field("u.c")), (0, 0), (1, 1), (2, 1), (100, 1))
        self.of(("byof", "t", "a", field("u.c")), (0, 0), (1, 1), (3, 1), (4, 1), (5, 2), (8, 2), (9, 3), (100, 25))

    def test_the_sum_of_the_products(self):
        counts = {"t": 10, "u": 7, "v": 9}
        self.assertEqual(cost((("all", "t"), ("all", "u")), counts), 10 + 70)
        self.assertEqual(cost((("all", "u"), ("all", "t")), counts), 7 + 70)
        self.assertEqual(cost((("key", "t", 1, 3), ("byof", "v", "z", field("t.a")), ("all", "u")), counts), 3 + 9 + 63)
        self.assertEqual(cost((("all", "t"), ("none", "u"), ("all", "v")), counts), 10)
        self.assertEqual(cost((("none", "u"), ("all", "t"), ("all", "v")), counts), 0)
        self.assertEqual(cost((("by", "v", "z", 3, None), ("keyof", "t", field("v.y"))), counts), 4 + 4)
        self.assertEqual(cost((("all", "t"), ("all", "u"), ("keyof", "v", field("t.a"))), counts), 10 + 70 + 70)

    def test_no_rows(self):
        self.assertEqual(cost((("all", "t"), ("all", "u")), {"t": 0, "u": 7}), 0)
        self.assertEqual(cost((("all", "u"), ("all", "t")), {"t": 0, "u": 7}), 7)


class Best(unittest.TestCase):
    def best(self, text, tables, counts, indexes=INDEXES):
        return best(tuple(tables.split()), where(text) if text else None, SHAPES, indexes, counts)

    def test_the_first_one_of_those_that_cost_least(self):
        self.assertEqual(self.best("", "t", {"t": 3}), (("all", "t"),))
        self.assertEqual(self.best("t.k = 1", "t", {"t": 1}), (("all", "t"),))
        self.assertEqual(self.best("t.k = 1", "t", {"t": 2}), (("key", "t", 1, 1),))
        self.assertEqual(self.best("t.k > 1 and t.a > 1", "t", {"t": 3}), (("key", "t", 2, None),))
        self.assertEqual(self.best("t.k > 1 and t.a = 1", "t", {"t": 6}), (("key", "t", 2, None),))
        self.assertEqual(self.best("t.k > 1 and t.a = 1", "t", {"t": 7}), (("by", "t", "a", 1, 1),))
        self.assertEqual(self.best("t.b = 2 and t.a = 1", "t", {"t": 7}), (("by", "t", "a", 1, 1),))
        self.assertEqual(self.best("t.k = 1", "t", {"t": 0}), (("all", "t"),))

    def test_the_order_of_tables(self):
        self.assertEqual(self.best("", "t u", {"t": 3, "u": 3}), (("all", "t"), ("all", "u")))
        self.assertEqual(self.best("", "u t", {"t": 3, "u": 3}), (("all", "u"), ("all", "t")))
        self.assertEqual(self.best("", "t u", {"t": 3, "u": 2}), (("all", "u"), ("all", "t")))
        self.assertEqual(
            self.best("t.k = u.c and u.k = t.a", "t u", {"t": 5, "u": 4}), (("all", "u"), ("keyof", "t", field("u.c"))),
        )
        self.assertEqual(
            self.best("v.z = t.a and u.k = v.y", "t u v", {"t": 4, "u": 100, "v": 8}),
            (("all", "t"), ("byof", "v", "z", field("t.a")), ("keyof", "u", field("v.y"))),
        )

    def test_none(self):
        self.assertEqual(self.best("1 = 2", "t u", {"t": 5, "u": 5}), (("none", "t"), ("none", "u")))
        self.assertEqual(
            self.best("u.k = 1 and u.k = 2", "t u", {"t": 5, "u": 5}), (("none", "u"), ("all", "t")),
        )

    def test_no_plan_costs_less_and_none_ahead_costs_the_same(self):
        source = random.Random(8)
        asker = worlds.Asker(source)
        for _ in range(800):
            shapes, _, indexes = asker.world()
            _, _, _, tables, cond, _, _ = asker.question(shapes)
            counts = {table: source.choice((0, 1, 2, 5, 9, 40)) for table in shapes}
            plans = all_plans(tables, cond, shapes, indexes)
            costs = [cost(plan, counts) for plan in plans]
            self.assertEqual(best(tables, cond, shapes, indexes, counts), plans[costs.index(min(costs))])


class Kept(unittest.TestCase):
    def test_what_is_handed_in_stays_and_the_same_is_told_again(self):
        cond = where("u.k = t.a and t.k > 1 and u.c = 2")
        tables, shapes, indexes, counts = ["t", "u"], {"t": ["k", "a"], "u": ["k", "c"]}, [("u", "c")], {"t": 2, "u": 3}
        before = copy.deepcopy((cond, tables, shapes, indexes, counts))
        first = all_plans(tables, cond, shapes, indexes)
        kept = list(first)
        chosen = best(tables, cond, shapes, indexes, counts)
        cost(chosen, counts)
        self.assertEqual((cond, tables, shapes, indexes, counts), before)
        first.clear()
        self.assertEqual(all_plans(tables, cond, shapes, indexes), kept)
        self.assertEqual(best(tables, cond, shapes, indexes, counts), chosen)

    def test_lists_and_tuples_are_the_same(self):
        cond = where("u.k = t.a and u.c = 2 and t.a < 5")
        one = all_plans(("t", "u"), cond, {"t": ("k", "a"), "u": ("k", "c")}, (("u", "c"), ("t", "a")))
        other = all_plans(["t", "u"], cond, {"t": ["k", "a"], "u": ["k", "c"]}, [("u", "c"), ("t", "a")])
        self.assertEqual(one, other)
        self.assertTrue(all(isinstance(plan, tuple) for plan in one))


if __name__ == "__main__":
    unittest.main()
