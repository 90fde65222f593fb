"""Statements done on a dealing: promises 5 and 9."""

import copy
import random
import unittest

import worlds
from granary.bounds import bounds
from granary.errors import StoreError, TooGreat, Twice
from granary.names import checked
from granary.statements import done_on
from granary.texts import read

SHAPES = {"t": ("k", "a", "b"), "u": ("m", "c")}
ROWS = {"t": [(3, 10, -1), (-2, 20, 5), (7, 10, 0), (0, -5, 5)], "u": [(10, 3), (20, 3), (-5, 0)]}
INDEXES = (("t", "a"), ("u", "c"))


def world():
    return worlds.View(SHAPES, ROWS, INDEXES)


def do(view, text):
    return done_on(checked(read(text), view.shapes(), view.indexed()), view)


class Told(unittest.TestCase):
    def left(self, text, told, rows, table="t"):
        """A statement tells this, and these rows are behind it."""
        view = world()
        self.assertEqual(do(view, text), told, text)
        self.assertEqual(view.all(table), sorted(rows), text)
        for other in {"t", "u"} - {table}:
            self.assertEqual(view.all(other), sorted(ROWS[other]))

    def refused(self, text, error):
        view = world()
        with self.assertRaises(error) as caught:
            do(view, text)
        self.assertIsInstance(caught.exception, StoreError)
        for table, rows in ROWS.items():
            self.assertEqual(view.all(table), sorted(rows), text)

    def test_put(self):
        self.left("put t 5 1 2", 1, [*ROWS["t"], (5, 1, 2)])
        self.left("put t -999999 999999 0", 1, [*ROWS["t"], (-999999, 999999, 0)])
        self.left("put u 0 0", 1, [*ROWS["u"], (0, 0)], "u")

    def test_put_of_a_key_that_is_there(self):
        self.refused("put t 3 1 2", Twice)
        self.refused("put t 3 10 -1", Twice)

    def test_set(self):
        self.left("set t b = 1 where a = 10", 2, [(3, 10, 1), (-2, 20, 5), (7, 10, 1), (0, -5, 5)])
        self.left("set t b = 1", 4, [(3, 10, 1), (-2, 20, 1), (7, 10, 1), (0, -5, 1)])
        self.left("set t b = 1 where a = 11", 0, ROWS["t"])
        self.left("set t b = b where k > 0", 2, ROWS["t"])
        self.left("set t b = k * a - b where k = 3", 1, [(3, 10, 31), (-2, 20, 5), (7, 10, 0), (0, -5, 5)])
        self.left("set u c = m + 1 where m < 0 or c = 9", 1, [(10, 3), (20, 3), (-5, -4)], "u")

    def test_all_terms_of_set_come_from_the_rows_as_they_were(self):
        self.left("set t a = b, b = a where k = 3", 1, [(3, -1, 10), (-2, 20, 5), (7, 10, 0), (0, -5, 5)])
        self.left("set t a = 1, b = a + b", 4, [(3, 1, 9), (-2, 1, 25), (7, 1, 10), (0, 1, 0)])
        self.left("set t a = 30 where a < 20 or a > 25", 3, [(3, 30, -1), (-2, 20, 5), (7, 30, 0), (0, 30, 5)])

    def test_set_at_the_ends(self):
        self.left("set t b = 999999 where k = 3", 1, [(3, 10, 999999), (-2, 20, 5), (7, 10, 0), (0, -5, 5)])
        self.left("set t b = 0 - 999999 where k = 3", 1, [(3, 10, -999999), (-2, 20, 5), (7, 10, 0), (0, -5, 5)])
        self.left("set t b = 999999 + 1 - 1 where k = 3", 1, [(3, 10, 999999), (-2, 20, 5), (7, 10, 0), (0, -5, 5)])
        self.left("set t b = 999999 + 1 where k = 4", 0, ROWS["t"])
        self.refused("set t b = 999999 + 1 where k = 3", TooGreat)
        self.refused("set t b = -999999 - 1 where k = 3", TooGreat)
        self.refused("set t b = a * 99999 where k > -9", TooGreat)

    def test_no_row_is_set_if_one_is_too_great(self):
        self.left("set t b = 999992 + k", 4, [(3, 10, 999995), (-2, 20, 999990), (7, 10, 999999), (0, -5, 999992)])
        self.refused("set t b = 999993 + k", TooGreat)
        self.refused("set t a = 0, b = 999993 + k", TooGreat)
        self.left("set t b = k - 999997", 4, [(3, 10, -999994), (-2, 20, -999999), (7, 10, -999990), (0, -5, -999997)])
        self.refused("set t b = k - 999998", TooGreat)
        self.refused("set t a = 999999 + 1, b = 0 where k = 7", TooGreat)

    def test_strike(self):
        self.left("strike t where a = 10", 2, [(-2, 20, 5), (0, -5, 5)])
        self.left("strike t", 4, [])
        self.left("strike t where k = 1", 0, ROWS["t"])
        self.left("strike t where 1 = 2", 0, ROWS["t"])
        self.left("strike u where not c = 3", 1, [(10, 3), (20, 3)], "u")
        self.left("strike t where k > 0 and (b = 0 or b = 5)", 1, [(3, 10, -1), (-2, 20, 5), (0, -5, 5)])

    def test_a_key_that_was_struck_may_be_put(self):
        view = world()
        self.assertEqual(do(view, "strike t where k = 3"), 1)
        self.assertEqual(do(view, "put t 3 1 1"), 1)
        self.assertEqual(view.row("t", 3), (3, 1, 1))

    def test_table_and_index(self):
        view = world()
        self.assertEqual(do(view, "table x k f"), 0)
        self.assertEqual(view.shapes(), {**SHAPES, "x": ("k", "f")})
        self.assertEqual(do(view, "index x f"), 0)
        self.assertEqual(view.indexed(), sorted([*INDEXES, ("x", "f")]))
        self.assertEqual(do(view, "put x 1 2"), 1)
        self.assertEqual(do(view, "pick f from x where f = 2"), [(2,)])

    def test_questions(self):
        view = world()
        told = do(view, "pick k, m from t and u where a = m by c, 0 - b, k first 3")
        self.assertEqual(told, [(0, -5), (-2, 20), (7, 10)])
        self.assertEqual(do(view, "count from t where a = 10"), 2)
        self.assertEqual(do(view, "sum b from t"), 9)
        self.assertEqual(do(view, "least k from t where 1 = 2"), None)
        self.assertEqual(do(view, "most c from u"), 3)
        for table, rows in ROWS.items():
            self.assertEqual(view.all(table), sorted(rows))

    def test_random_questions(self):
        asker = worlds.Asker(random.Random(5))
        for _ in range(400):
            shapes, rows, indexes = asker.world()
            tree = asker.question(shapes)
            self.assertEqual(done_on(tree, worlds.View(shapes, rows, indexes)), worlds.asked(tree, shapes, rows))

    def test_random_sets_and_strikes(self):
        source = random.Random(50)
        asker = worlds.Asker(source)
        for _ in range(400):
            shapes, rows, indexes = asker.world()
            table = source.choice(sorted(shapes))
            where = asker.where((table,), shapes)
            fulfils = eval("lambda r: " + ("True" if where is None else worlds.spelled(where)))
            met = [row for row in sorted(rows[table]) if fulfils(worlds.named((table,), (row,), shapes))]
            view = worlds.View(shapes, rows, indexes)
            self.assertEqual(done_on(("strike", table, where), view), len(met))
            self.assertEqual(view.all(table), [row for row in sorted(rows[table]) if row not in met])
            self.assertEqual(view.noted, [(table, bounds(where, table))])
            fields = shapes[table][1:]
            if fields:
                chosen = source.sample(fields, source.randint(1, min(3, len(fields))))
                settings = tuple((field, asker.term((table,), shapes)) for field in chosen)
                view = worlds.View(shapes, rows, indexes)
                self.assertEqual(done_on(("set", table, settings, where), view), len(met))
                after = []
                for row in sorted(rows[table]):
                    named = worlds.named((table,), (row,), shapes)
                    new = dict(named[table])
                    if row in met:
                        new.update({field: eval(worlds.spelled(term), {"r": named}) for field, term in settings})
                    after.append(tuple(new.values()))
                self.assertEqual(view.all(table), after)


class Best(unittest.TestCase):
    def ways(self, text):
        view = world()
        do(view, text)
        return view.ways

    def test_the_best_plan_is_gone(self):
        self.assertEqual(self.ways("count from t where k = 3"), [("key", "t", 3, 3)])
        self.assertEqual(self.ways("count from t where a = 10"), [("by", "t", "a", 10, 10)])
        self.assertEqual(self.ways("count from t where b = 0"), [("all", "t")])
        self.assertEqual(self.ways("strike t where a = 10"), [("by", "t", "a", 10, 10)])
        self.assertEqual(self.ways("set t b = 1 where k > 2 and a > 1"), [("key", "t", 3, None)])
        self.assertEqual(self.ways("strike t"), [("all", "t")])
        self.assertEqual(self.ways("count from t where 1 = 2"), [])
        self.assertEqual(self.ways("count from t and u"), [("all", "u")] + [("all", "t")] * 3)

    def test_by_the_counts_that_the_dealing_tells(self):
        view = world()
        for key in range(100, 120):
            do(view, f"put u {key} 0")
        view.ways.clear()
        do(view, "count from t and u")
        self.assertEqual(view.ways, [("all", "t")] + [("all", "u")] * 4)

    def test_an_index_that_is_told_but_not_there_to_go_by(self):
        view = world()
        view.indexed = lambda: [*INDEXES, ("t", "b")]
        self.assertEqual(do(view, "pick k from t where b = 5"), [(-2,), (0,)])
        self.assertEqual(do(view, "set t a = 1 where b = 5"), 2)
        self.assertEqual(do(view, "strike t where b = 5"), 2)
        self.assertEqual(view.all("t"), [(3, 10, -1), (7, 10, 0)])


class Saw(unittest.TestCase):
    def saw(self, text, *expected):
        view = world()
        try:
            do(view, text)
        except (Twice, TooGreat):
            pass
        self.assertEqual(view.noted, list(expected), text)

    def test_questions(self):
        self.saw("count from t", ("t", {}))
        self.saw("pick k from t where k > 1 and a = 2 or b = 1", ("t", {}))
        self.saw("sum k from t where k > 1 and a = 2 and b < k", ("t", {"k": (2, None), "a": (2, 2)}))
        self.saw("count from t and u where k = 3 and a = m and 5 > c", ("t", {"k": (3, 3)}), ("u", {"c": (None, 4)}))
        self.saw("count from u and t where k = 3", ("u", {}), ("t", {"k": (3, 3)}))
        self.saw("least k from t where 1 = 2", ("t", None))
        self.saw("count from t and u where k = 3 and k = 4", ("t", None), ("u", {}))

    def test_set_and_strike(self):
        self.saw("set t b = 1", ("t", {}))
        self.saw("set t b = 1 where a >= 5 and not b = 2", ("t", {"a": (5, None)}))
        self.saw("strike u where c = 3 and m < 0", ("u", {"c": (3, 3), "m": (None, -1)}))
        self.saw("strike u", ("u", {}))
        self.saw("strike u where 1 > 2", ("u", None))
        self.saw("set u c = 1 where c > 3 and c < 2", ("u", None))

    def test_a_refused_set(self):
        self.saw("set t b = 999999 + 1 where a = 10 and k > 0", ("t", {"a": (10, 10), "k": (1, None)}))

    def test_put_its_own_key_also_if_refused(self):
        self.saw("put t 5 1 2", ("t", {"k": (5, 5)}))
        self.saw("put t 3 1 2", ("t", {"k": (3, 3)}))
        self.saw("put u -5 1", ("u", {"m": (-5, -5)}))

    def test_table_and_index_saw_nothing(self):
        self.saw("table x k f")
        self.saw("index t b")

    def test_random_questions(self):
        asker = worlds.Asker(random.Random(55))
        for _ in range(300):
            shapes, rows, indexes = asker.world()
            tree = asker.question(shapes)
            view = worlds.View(shapes, rows, indexes)
            done_on(tree, view)
            self.assertEqual(view.noted, [(table, bounds(tree[4], table)) for table in tree[3]])


class Kept(unittest.TestCase):
    def test_trees_stay_and_the_same_is_told_again(self):
        view = world()
        texts = (
            "pick k, m from t and u where a = m by b first 9", "count from t", "set t b = a where k > 0",
            "put t 5 1 2", "strike t where k = 5", "table x k", "index t b",
        )
        for text in texts:
            tree = checked(read(text), view.shapes(), view.indexed())
            before = copy.deepcopy(tree)
            told = done_on(tree, view)
            self.assertEqual(tree, before)
            if tree[0] == "ask":
                self.assertEqual(done_on(tree, view), told)
        first = do(view, "pick k from t")
        first.append("more")
        self.assertEqual(do(view, "pick k from t"), first[:-1])

    def test_what_was_told_stays_if_rows_change(self):
        view = world()
        told = do(view, "pick k, a from t where k > 0")
        do(view, "set t a = 0")
        self.assertEqual(told, [(3, 10), (7, 10)])


if __name__ == "__main__":
    unittest.main()
