"""The store as a whole: promise 10, and of 11 and 12 what a store tells of dealings and of indexes."""

import copy
import random
import unittest

from granary.errors import BadNumber, BadPlan
from granary.sights import is_in
from granary.tables import Table
from granary.versions import Store, based

RECORDS = (
    (("table", "t", ("k", "a")), ("index", "t", "a"), ("row", "t", 3, (3, 10)), ("row", "t", 7, (7, 10))),
    (("row", "t", 3, (3, 20)), ("row", "t", 5, (5, 1))),
    (("row", "t", 3, None), ("row", "t", -2, (-2, 20))),
    (("table", "u", ("m",)), ("row", "t", 3, (3, 30)), ("row", "t", 5, None)),
    (("table", "b", ("x", "y", "z")), ("index", "b", "z"), ("index", "b", "y"), ("row", "u", 9, (9,))),
    (),
)


def store(first=0, records=RECORDS):
    made = Store(first=first)
    for at, writes in enumerate(records):
        made.take(first + at + 1, writes)
    return made


class Model:
    """Another store: it keeps all records and goes through them again for each question."""

    def __init__(self, first=0, content=((), (), ())):
        self.first, self.base = first, first
        self.records = {}
        self.begun = [("table", *pair) for pair in content[0]] + [("index", *pair) for pair in content[1]]
        self.begun += [("row", table, row[0], row) for table, rows in content[2] for row in rows]

    def numbered(self):
        yield from ((self.base, write) for write in self.begun)
        for number, writes in self.records.items():
            yield from ((number, write) for write in writes)

    def content(self, number):
        tables, indexes, rows = {}, [], {}
        for made, (kind, table, *told) in self.numbered():
            if made <= number and kind == "table":
                tables[table] = told[0]
                rows[table] = {}
            elif made <= number and kind == "index":
                indexes.append((table, told[0]))
            elif made <= number:
                rows[table][told[0]] = told[1]
        kept = {table: tuple(row for _, row in sorted(rows[table].items()) if row) for table in sorted(rows)}
        return (tuple(sorted(tables.items())), tuple(sorted(indexes)), tuple(pair for pair in kept.items() if pair[1]))

    def chains(self):
        """(number, row) of all that are kept, by table and key."""
        chains = {}
        for number, write in self.numbered():
            if write[0] == "row":
                chains.setdefault(write[1:3], []).append((number, write[3]))
        for name, chain in list(chains.items()):
            ahead = [one for one in chain if one[0] <= self.first][-1:]
            if self.first > self.base:
                ahead = [one for one in ahead if one[1] is not None]
            chains[name] = ahead + [one for one in chain if one[0] > self.first]
        return {name: chain for name, chain in chains.items() if chain}

    def clash(self, number, seen):
        shapes = dict(self.content(max(self.records, default=self.base))[0])
        rows = {}
        for made, write in self.numbered():
            if write[0] != "row":
                if made > number:
                    return made
                continue
            before = rows.get(write[1:3])
            rows[write[1:3]] = write[3]
            for table, bounds in seen:
                if made > number and table == write[1]:
                    if any(is_in(row, shapes[table], bounds) for row in (before, write[3])):
                        return made
        return None


class Taking(unittest.TestCase):
    def test_first_and_newest(self):
        self.assertEqual((Store().first, Store().newest), (0, 0))
        self.assertEqual((Store(first=7).first, Store(first=7).newest), (7, 7))
        self.assertEqual((store().first, store().newest), (0, 6))
        self.assertEqual((store(40).first, store(40).newest), (40, 46))

    def test_a_number_that_is_not_the_next_one(self):
        for made, numbers in ((store(), (0, 6, 8, -1)), (Store(first=4), (1, 4, 6)), (Store(), (0, 2))):
            before = made.content(made.newest), made.newest, made.versions()
            for number in numbers:
                with self.assertRaises(BadNumber):
                    made.take(number, (("table", "new", ("k",)), ("row", "new", 1, (1,))))
                self.assertEqual((made.content(made.newest), made.newest, made.versions()), before)

    def test_what_is_told_of_each_moment(self):
        made = store()
        t, u, b = ("t", ("k", "a")), ("u", ("m",)), ("b", ("x", "y", "z"))
        i, j, k = ("t", "a"), ("b", "y"), ("b", "z")
        expected = (
            ((), (), ()),
            ((t,), (i,), (("t", ((3, 10), (7, 10))),)),
            ((t,), (i,), (("t", ((3, 20), (5, 1), (7, 10))),)),
            ((t,), (i,), (("t", ((-2, 20), (5, 1), (7, 10))),)),
            ((t, u), (i,), (("t", ((-2, 20), (3, 30), (7, 10))),)),
            ((b, t, u), (j, k, i), (("t", ((-2, 20), (3, 30), (7, 10))), ("u", ((9,),)))),
            ((b, t, u), (j, k, i), (("t", ((-2, 20), (3, 30), (7, 10))), ("u", ((9,),)))),
        )
        for number, content in enumerate(expected):
            self.assertEqual(made.content(number), content)
            self.assertEqual(made.shapes(number), dict(content[0]))
            self.assertEqual(made.indexed(number), list(content[1]))
            self.assertEqual(store(40).content(40 + number), content)

    def test_rows_and_versions(self):
        made = store()
        self.assertEqual([made.row("t", 3, number) for number in range(7)],
                         [None, (3, 10), (3, 20), None, (3, 30), (3, 30), (3, 30)])
        self.assertEqual([made.version("t", 3, number) for number in range(5)],
                         [(None, None), (1, (3, 10)), (2, (3, 20)), (None, None), (4, (3, 30))])
        self.assertEqual([made.version("t", 7, number)[0] for number in range(7)], [None] + [1] * 6)
        self.assertEqual((made.row("t", 8, 6), made.version("t", 8, 6)), (None, (None, None)))
        self.assertEqual((made.row("v", 8, 6), made.version("v", 8, 6)), (None, (None, None)))

    def test_moments_that_there_are_not(self):
        for made, numbers in ((store(), (-1, 7)), (store(40), (0, 39, 47)), (Store(), (-1, 1))):
            for number in numbers:
                for ask in (made.shapes, made.indexed, made.content, made.sweep):
                    with self.assertRaises(BadNumber):
                        ask(number)
                for ask in (made.row, made.version):
                    with self.assertRaises(BadNumber):
                        ask("t", 3, number)
                with self.assertRaises(BadNumber):
                    made.opened(number=number)

    def test_keys_and_how_many_versions(self):
        made = store()
        self.assertEqual(made.keys("t"), [-2, 3, 5, 7])
        self.assertEqual((made.keys("u"), made.keys("b"), made.keys("v")), ([9], [], []))
        self.assertEqual(made.versions(), 9)
        made.take(7, (("row", "t", 7, None), ("row", "t", 0, None)))
        self.assertEqual(made.keys("t"), [-2, 0, 3, 5, 7])
        self.assertEqual(made.versions(), 11)
        self.assertEqual(Store().versions(), 0)

    def test_tables_without_rows_stand_not_in_the_third(self):
        made = Store()
        made.take(1, (("table", "t", ("k",)), ("row", "t", 1, (1,))))
        made.take(2, (("row", "t", 1, None),))
        self.assertEqual(made.content(2), ((("t", ("k",)),), (), ()))


class Based(unittest.TestCase):
    def test_it_tells_what_the_store_told_that_it_is_of(self):
        for number in range(7):
            made = based(number, store().content(number))
            self.assertEqual((made.first, made.newest), (number, number))
            self.assertEqual(made.versions(), sum(len(rows) for _, rows in store().content(number)[2]))
            for at in range(number, 7):
                if at > number:
                    made.take(at, RECORDS[at - 1])
                self.assertEqual(made.content(at), store().content(at))
            with self.assertRaises(BadNumber):
                made.content(number - 1)

    def test_its_rows_are_of_its_first_moment(self):
        made = based(30, ((("t", ("k", "a")),), (("t", "a"),), (("t", ((1, 5), (2, 5))),)))
        self.assertEqual(made.version("t", 2, 30), (30, (2, 5)))
        self.assertEqual(made.opened().by_index("t", "a", 5, 5), [(1, 5), (2, 5)])
        self.assertEqual(made.opened().version("t", 1), 30)
        self.assertIsNone(made.clash(made.opened()))

    def test_of_nothing(self):
        made = based(0, ((), (), ()))
        self.assertEqual(made.content(0), ((), (), ()))
        made.take(1, RECORDS[0])
        self.assertEqual(made.content(1), store().content(1))


class Sweeping(unittest.TestCase):
    def test_just_what_is_shown_and_later_ones_are_kept(self):
        for number, kept in zip((0, 1, 2, 3, 4, 5), (9, 9, 8, 6, 4, 4)):
            made = store()
            expected = [made.content(at) for at in range(number, 7)]
            self.assertEqual(made.sweep(number), number)
            self.assertEqual((made.first, made.newest), (number, 6))
            self.assertEqual(made.versions(), kept, number)
            self.assertEqual([made.content(at) for at in range(number, 7)], expected)
            for at in range(number):
                with self.assertRaises(BadNumber):
                    made.content(at)
                with self.assertRaises(BadNumber):
                    made.opened(number=at)

    def test_a_moment_that_is_not_any_more(self):
        made = store()
        self.assertEqual(made.sweep(4), 4)
        for number in (3, 0, 7):
            with self.assertRaises(BadNumber):
                made.sweep(number)
        self.assertEqual((made.sweep(4), made.first), (4, 4))
        self.assertEqual(made.sweep(6), 6)

    def test_struck_keys_go(self):
        made = store()
        made.sweep(3)
        self.assertEqual(made.keys("t"), [-2, 3, 5, 7])
        made.sweep(5)
        self.assertEqual(made.keys("t"), [-2, 3, 7])
        self.assertEqual(made.version("t", 7, 5), (1, (7, 10)))
        self.assertEqual(made.version("t", 3, 5), (4, (3, 30)))

    def test_an_elder_dealing_that_is_open_counts(self):
        made = store()
        eldest, other = made.opened(number=2), made.opened(number=4)
        same = made.opened(number=2)
        self.assertEqual(made.sweep(5), 2)
        self.assertEqual(eldest.rows("t"), [(3, 20), (5, 1), (7, 10)])
        eldest.end()
        self.assertEqual(made.sweep(5), 2)
        same.end()
        self.assertEqual(made.sweep(3), 3)
        self.assertEqual(made.sweep(6), 4)
        self.assertEqual(made.first, 4)
        self.assertEqual(other.rows("t"), [(-2, 20), (3, 30), (7, 10)])
        other.end()
        other.end()
        self.assertEqual(made.sweep(6), 6)

    def test_a_younger_dealing_does_not_count(self):
        made = store()
        made.opened()
        self.assertEqual(made.sweep(3), 3)

    def test_a_refused_sweep_changes_nothing(self):
        made = store()
        with self.assertRaises(BadNumber):
            made.sweep(7)
        self.assertEqual((made.first, made.versions()), (0, 9))

    def test_indexes_have_the_pairs_of_all_kept_versions(self):
        made = store()
        self.assertEqual(made.opened(number=1).by_index("t", "a", None, None), [(3, 10), (7, 10)])
        made.sweep(4)
        self.assertEqual(made.opened(number=4).by_index("t", "a", None, None), [(7, 10), (-2, 20), (3, 30)])
        made.take(7, (("row", "t", 3, (3, 10)), ("row", "t", 7, None)))
        self.assertEqual(made.opened().by_index("t", "a", None, None), [(3, 10), (-2, 20)])
        self.assertEqual(made.opened(number=6).by_index("t", "a", 10, 30), [(7, 10), (-2, 20), (3, 30)])
        made.sweep(7)
        self.assertEqual(made.opened().by_index("t", "a", 11, None), [(-2, 20)])

    def test_an_index_has_no_pairs_of_versions_that_are_not_kept(self):
        made = Table(1, ("k", "a"))
        made.make_index(1, "a")
        for number, row in enumerate(((5, 1), (5, 2), None, (5, 3), (5, 2)), 1):
            made.lay(number, 5, row)
        made.lay(6, 7, (7, 2))
        for number, pairs in ((1, [(1, 5), (2, 5), (2, 7), (3, 5)]), (2, [(2, 5), (2, 7), (3, 5)]),
                              (4, [(2, 5), (2, 7), (3, 5)]), (5, [(2, 5), (2, 7)]), (9, [(2, 5), (2, 7)])):
            made.sweep(number)
            self.assertEqual(made.indexes["a"].between(None, None), pairs)

    def test_a_dealing_that_ended_sees_no_moment_that_is_not_any_more(self):
        made = store()
        dealing = made.opened(number=2)
        dealing.end()
        made.sweep(3)
        for ask in (lambda: dealing.rows("t"), lambda: dealing.row("t", 3), dealing.shapes, dealing.indexed,
                    lambda: dealing.by_key("t", 1, 2), lambda: dealing.by_index("t", "a", 1, 2)):
            with self.assertRaises(BadNumber):
                ask()

    def test_an_index_that_is_made_behind_a_sweep(self):
        made = store()
        made.sweep(5)
        made.take(7, (("table", "w", ("k", "a")), ("row", "w", 1, (1, 2))))
        made.take(8, (("index", "w", "a"),))
        self.assertEqual(made.opened().by_index("w", "a", 2, 2), [(1, 2)])
        with self.assertRaises(BadPlan):
            made.opened(number=7).by_index("w", "a", 2, 2)


class Clash(unittest.TestCase):
    def clash(self, number, *seen, made=None):
        made = made or store()
        dealing = made.opened(number=number)
        for table, bounds in seen:
            dealing.saw(table, bounds)
        first = made.clash(dealing)
        self.assertEqual(made.clash(dealing), first)
        return first

    def test_none_later(self):
        self.assertIsNone(self.clash(6, ("t", {}), ("u", {}), ("b", {})))
        self.assertIsNone(self.clash(5, ("t", {})))

    def test_rows_later(self):
        self.assertEqual(self.clash(1, ("t", {})), 2)
        self.assertEqual(self.clash(2, ("t", {})), 3)
        self.assertEqual(self.clash(1, ("t", {"k": (3, 3)})), 2)
        self.assertEqual(self.clash(1, ("t", {"k": (7, 7)})), 4)
        self.assertEqual(self.clash(1, ("t", {"k": (-5, -2)})), 3)
        self.assertEqual(self.clash(1, ("t", {"k": (None, -2)})), 3)
        self.assertEqual(self.clash(1, ("t", {"k": (6, None)})), 4)

    def made(self, *writes):
        return store(records=RECORDS[:3] + tuple((write,) for write in writes))

    def test_a_row_as_it_was_or_as_it_is_then(self):
        moved = self.made(("row", "t", 7, (7, 90)))
        for bounds, number in (({"a": (10, 10)}, 4), ({"a": (90, 90)}, 4), ({"a": (11, 89)}, None),
                               ({"a": (89, None)}, 4), ({"a": (None, 9)}, None), ({"a": (None, 10)}, 4),
                               ({"k": (7, 7), "a": (11, 89)}, None),
                               ({"k": (7, 8), "a": (90, 91)}, 4), ({"k": (8, 8), "a": (90, 91)}, None),
                               ({}, 4), (None, None)):
            self.assertEqual(self.clash(3, ("t", bounds), made=moved), number, bounds)

    def test_a_row_that_is_put_or_struck(self):
        put = self.made(("row", "t", 8, (8, 0)))
        self.assertEqual(self.clash(3, ("t", {"k": (8, 8)}), made=put), 4)
        self.assertEqual(self.clash(3, ("t", {"a": (0, 0)}), made=put), 4)
        self.assertIsNone(self.clash(3, ("t", {"k": (9, None)}), made=put))
        struck = self.made(("row", "t", 7, None))
        self.assertEqual(self.clash(3, ("t", {"a": (10, 10)}), made=struck), 4)
        self.assertIsNone(self.clash(3, ("t", {"a": (11, 11)}), made=struck))
        self.assertIsNone(self.clash(3, ("t", {"k": (4, 6), "a": (2, 9)}), made=struck))

    def test_the_least_of_several(self):
        made = self.made(("row", "t", 7, (7, 50)), ("row", "t", 5, (5, 50)), ("row", "t", 7, None),
                         ("row", "t", 9, (9, 0)))
        self.assertEqual(self.clash(3, ("t", {"k": (9, 9)}), ("t", {"k": (5, 5)}), made=made), 5)
        self.assertEqual(self.clash(4, ("t", {"k": (7, 9)}), made=made), 6)
        self.assertEqual(self.clash(6, ("t", {}), made=made), 7)

    def test_rows_put_and_struck_again(self):
        made = self.made(("row", "t", 8, (8, 0)), ("row", "t", 8, None), ("row", "t", 8, (8, 0)), ("row", "t", 8, None))
        for number in (3, 4, 5, 6):
            self.assertEqual(self.clash(number, ("t", {"k": (8, 8)}), made=made), number + 1)
        self.assertIsNone(self.clash(7, ("t", {"k": (8, 8)}), made=made))

    def test_a_row_that_is_struck_though_it_was_not_there(self):
        self.assertIsNone(self.clash(3, ("t", {}), made=self.made(("row", "t", 99, None))))

    def test_a_table_or_an_index_whichever(self):
        table, index = self.made(("table", "w", ("k",))), self.made(("table", "w", ("k", "a")), ("index", "w", "a"))
        for seen in ((), (("t", {"k": (99, 99)}),)):
            self.assertEqual(self.clash(3, *seen, made=table), 4)
            self.assertEqual(self.clash(4, *seen, made=index), 5)
            self.assertIsNone(self.clash(4, *seen, made=table))
        self.assertEqual(self.clash(0), 1)
        self.assertEqual(self.clash(4), 5)

    def test_a_table_that_was_not_there_yet(self):
        made = store()
        dealing = made.opened(number=4)
        dealing.saw("b", {})
        self.assertEqual(made.clash(dealing), 5)
        dealing = made.opened()
        dealing.saw("nosuch", {})
        self.assertIsNone(made.clash(dealing))

    def test_a_dealing_that_saw_nothing(self):
        made = self.made(("row", "t", 7, None))
        self.assertIsNone(self.clash(3, made=made))
        self.assertIsNone(self.clash(3, ("t", None), made=made))
        self.assertIsNone(self.clash(3, ("u", {}), made=made))

    def test_the_key_of_a_put(self):
        for key, row in ((7, (7, 1)), (8, (8, 1))):
            made = self.made(("row", "t", 8, (8, 0)), ("row", "t", 7, None))
            dealing = made.opened(number=3)
            try:
                dealing.put("t", row)
            except ValueError:
                self.assertEqual(key, 7)
            self.assertEqual(made.clash(dealing), {7: 5, 8: 4}[key])

    def test_its_own_writes_do_not_count(self):
        made = self.made(("row", "t", 7, None))
        dealing = made.opened(number=3)
        dealing.change("t", (7, 99))
        dealing.strike("t", 5)
        self.assertIsNone(made.clash(dealing))

    def test_behind_a_sweep(self):
        made = store()
        dealing = made.opened(number=3)
        dealing.saw("t", {"k": (5, 5)})
        other = made.opened(number=4)
        other.saw("t", {"a": (30, 30)})
        self.assertEqual(made.sweep(6), 3)
        self.assertEqual((made.clash(dealing), made.clash(other)), (4, 5))
        dealing.end()
        self.assertEqual(made.sweep(6), 4)
        made.take(7, (("row", "t", 3, (3, 0)),))
        late = made.opened(number=6)
        late.saw("t", {"a": (30, 30)})
        self.assertEqual((made.clash(other), made.clash(late)), (5, 7))
        with self.assertRaises(BadNumber):
            made.clash(dealing)


class Apart(unittest.TestCase):
    def test_what_is_handed_in_is_kept_as_a_copy(self):
        writes = [["table", "t", ["k", "a"]], ["row", "t", 1, [1, 2]]]
        before = copy.deepcopy(writes)
        made = Store()
        made.take(1, writes)
        self.assertEqual(writes, before)
        writes[1][3][1] = 9
        writes[0][2].append("b")
        self.assertEqual(made.content(1), ((("t", ("k", "a")),), (), (("t", ((1, 2),)),)))
        content = [[["t", ["k", "a"]]], [["t", "a"]], [["t", [[1, 2]]]]]
        before = copy.deepcopy(content)
        made = based(3, content)
        self.assertEqual(content, before)
        content[2][0][1][0][1] = 9
        content[0][0][1].append("b")
        self.assertEqual(made.content(3), ((("t", ("k", "a")),), (("t", "a"),), (("t", ((1, 2),)),)))

    def test_what_is_told_may_be_changed(self):
        made = store()
        made.shapes(6).clear()
        made.indexed(6).clear()
        made.keys("t").clear()
        self.assertEqual(list(made.shapes(6)), ["t", "u", "b"])
        self.assertEqual((len(made.indexed(6)), made.keys("t")), (3, [-2, 3, 5, 7]))

    def test_two_stores_are_apart(self):
        one, other = store(), store()
        one.take(7, (("row", "t", 3, None),))
        one.sweep(7)
        self.assertEqual((other.newest, other.first, other.row("t", 3, 6)), (6, 0, (3, 30)))

    def test_the_same_records_make_the_same_content(self):
        made = store()
        dealing = made.opened()
        dealing.put("t", (1, 1))
        dealing.change("t", (3, 31))
        dealing.strike("t", 7)
        other = store()
        for one in (made, other):
            one.take(7, dealing.writes())
        self.assertEqual(made.content(7), other.content(7))
        self.assertEqual(made.row("t", 3, 7), (3, 31))


class AtRandom(unittest.TestCase):
    """Held against the other store."""

    def writes(self, source, model, newest):
        shapes = dict(model.content(newest)[0])
        told = []
        if len(shapes) < 3 and source.random() < 0.2:
            table = "tuv"[len(shapes)]
            shapes[table] = ("k", "a", "b")[:source.randint(1, 3)]
            told.append(("table", table, shapes[table]))
        free = [(t, f) for t in shapes for f in shapes[t][1:] if (t, f) not in model.content(newest)[1]]
        if free and source.random() < 0.15:
            told.append(("index", *source.choice(free)))
        rows = {(source.choice(sorted(shapes)), source.randint(-3, 3)) for _ in range(source.randint(0, 3)) if shapes}
        for table, key in sorted(rows):
            row = (key, *(source.randint(0, 3) for _ in shapes[table][1:])) if source.random() < 0.7 else None
            told.append(("row", table, key, row))
        return tuple(told)

    def test_it_tells_what_the_model_tells(self):
        for seed in range(150):
            source = random.Random(seed)
            made, model, opened = Store(), Model(), []
            for number in range(1, 25):
                writes = self.writes(source, model, number - 1)
                made.take(number, writes)
                model.records[number] = writes
                if source.random() < 0.3:
                    opened.append(self.opened(source, made, model))
                if opened and source.random() < 0.2:
                    opened.pop(source.randrange(len(opened)))[0].end()
                if source.random() < 0.2:
                    at = source.randint(model.first, number)
                    model.first = min([at] + [dealing.number for dealing, _ in opened])
                    self.assertEqual(made.sweep(at), model.first)
                self.look(made, model, number, opened)

    def opened(self, source, made, model):
        dealing = made.opened(number=source.randint(model.first, made.newest))
        for table in source.sample(sorted(dealing.shapes()), min(1, len(dealing.shapes()))):
            fields = source.sample(dealing.shapes()[table], source.randint(0, len(dealing.shapes()[table])))
            dealing.saw(table, {field: source.choice(((0, 1), (None, 0), (2, None), (-3, -3))) for field in fields})
        return dealing, [table for table in dealing.shapes()] and model.content(dealing.number)

    def look(self, made, model, newest, opened):
        self.assertEqual((made.first, made.newest), (model.first, newest))
        for number in range(model.first, newest + 1):
            self.assertEqual(made.content(number), model.content(number))
        chains = model.chains()
        self.assertEqual(made.versions(), sum(map(len, chains.values())))
        for table in made.shapes(newest):
            self.assertEqual(made.keys(table), sorted(key for name, key in chains if name == table))
        for dealing, content in opened:
            self.assertEqual(made.clash(dealing), model.clash(dealing.number, dealing.seen()))
            for table, rows in (content[2] if content else ()):
                self.assertEqual(dealing.rows(table), list(rows))
                for _, field in [pair for pair in dealing.indexed() if pair[0] == table]:
                    at = dealing.shapes()[table].index(field)
                    expected = sorted((row for row in rows if 1 <= row[at] <= 2), key=lambda row: (row[at], row[0]))
                    self.assertEqual(dealing.by_index(table, field, 1, 2), expected)


if __name__ == "__main__":
    unittest.main()
