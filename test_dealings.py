"""Dealings, and what of a store they see: promise 11, and of 10 what a dealing needs."""

import copy
import random
import unittest

import worlds
from granary.bounds import bounds
from granary.doing import answer
from granary.errors import BadNumber, BadPlan, StoreError, Twice
from granary.names import checked
from granary.plans import all_plans
from granary.sights import is_in, is_wider
from granary.statements import done_on
from granary.texts import read
from granary.versions import Store

RECORDS = (
    (("table", "t", ("k", "a")), ("row", "t", 3, (3, 10)), ("row", "t", -2, (-2, 20)), ("row", "t", 7, (7, 10))),
    (("index", "t", "a"),),
    (("row", "t", 3, (3, 20)), ("row", "t", 7, None)),
    (("table", "u", ("m",)), ("row", "t", 0, (0, 5)), ("row", "u", 1, (1,))),
    (("row", "t", 0, (0, 10)), ("row", "t", 7, (7, -1))),
)


def store(many=len(RECORDS), first=0):
    made = Store(first=first)
    for at, writes in enumerate(RECORDS[:many]):
        made.take(first + at + 1, writes)
    return made


def opened(many=len(RECORDS)):
    return store(many).opened()


class Moment(unittest.TestCase):
    def test_its_number(self):
        made = store()
        self.assertEqual(made.opened().number, 5)
        self.assertEqual([made.opened(number=number).number for number in range(6)], [0, 1, 2, 3, 4, 5])
        self.assertEqual((made.first, made.newest), (0, 5))
        self.assertEqual(Store().opened().number, 0)
        self.assertEqual(store(2, first=40).opened().number, 42)

    def test_a_moment_that_there_is_not(self):
        for made, numbers in ((store(), (-1, 6, 100)), (store(2, first=40), (39, 43, 0)), (Store(), (1, -1))):
            for number in numbers:
                with self.assertRaises(BadNumber) as caught:
                    made.opened(number=number)
                self.assertIsInstance(caught.exception, StoreError)

    def test_records_are_taken_one_by_one(self):
        made = store(2)
        for number in (0, 1, 2, 4, -1):
            with self.assertRaises(BadNumber):
                made.take(number, (("row", "t", 9, (9, 9)),))
        self.assertEqual(made.newest, 2)
        self.assertIsNone(made.opened().row("t", 9))
        made.take(3, ())
        self.assertEqual(made.newest, 3)

    def test_what_it_sees_of_each_moment(self):
        made = store()
        expected = {
            0: None, 1: [(-2, 20), (3, 10), (7, 10)], 2: [(-2, 20), (3, 10), (7, 10)], 3: [(-2, 20), (3, 20)],
            4: [(-2, 20), (0, 5), (3, 20)], 5: [(-2, 20), (0, 10), (3, 20), (7, -1)],
        }
        for number, rows in expected.items():
            dealing = made.opened(number=number)
            self.assertEqual("t" in dealing.shapes(), rows is not None)
            if rows is not None:
                self.assertEqual(dealing.rows("t"), rows)
                self.assertEqual(dealing.count("t"), len(rows))
                self.assertEqual([dealing.row("t", key) for key in (-2, 0, 3, 7)],
                                 [dict(zip([row[0] for row in rows], rows)).get(key) for key in (-2, 0, 3, 7)])
            self.assertEqual(dealing.indexed(), [("t", "a")] if number >= 2 else [])
            self.assertEqual("u" in dealing.shapes(), number >= 4)

    def test_whatever_is_taken_later(self):
        made = store(2)
        dealing = made.opened()
        before = (dealing.rows("t"), dealing.by_index("t", "a", None, None), dealing.shapes(), dealing.indexed())
        for at, writes in enumerate(RECORDS[2:]):
            made.take(3 + at, writes)
        made.take(6, (("index", "u", "m"), ("row", "t", -2, None), ("row", "t", 3, (3, 10))))
        after = (dealing.rows("t"), dealing.by_index("t", "a", None, None), dealing.shapes(), dealing.indexed())
        self.assertEqual(after, before)
        self.assertEqual(before[1], [(3, 10), (7, 10), (-2, 20)])
        self.assertEqual(dealing.row("t", 3), (3, 10))
        self.assertEqual(dealing.version("t", 3), 1)
        self.assertEqual(dealing.count("t"), 3)

    def test_versions(self):
        made = store()
        self.assertEqual([made.opened(number=number).version("t", 3) for number in range(1, 6)], [1, 1, 3, 3, 3])
        told = [made.opened(number=number).version("t", 0) for number in range(1, 6)]
        self.assertEqual(told, [None, None, None, 4, 5])
        self.assertEqual(opened().version("t", -2), 1)
        self.assertEqual(opened().version("u", 1), 4)

    def test_no_version_of_a_row_that_is_not_there(self):
        self.assertIsNone(opened(4).version("t", 7))
        self.assertIsNone(opened().version("t", 8))
        self.assertEqual(store().version("t", 7, 3), (None, None))
        self.assertEqual(store().version("t", 7, 5), (5, (7, -1)))
        self.assertEqual(store().version("t", 9, 5), (None, None))

    def test_a_row_may_be_of_any_record_behind_its_table_s(self):
        made = store(1)
        made.take(2, (("row", "t", -9, (-9, 0)),))
        made.take(3, (("row", "t", 99, (99, 0)),))
        self.assertEqual([row[0] for row in made.opened().rows("t")], [-9, -2, 3, 7, 99])

    def test_dealings_end(self):
        made = store()
        dealing = made.opened()
        other = made.opened()
        self.assertIsNone(dealing.end())
        self.assertIsNone(dealing.end())
        self.assertEqual(other.count("t"), 4)
        other.end()
        self.assertEqual(made.opened().count("t"), 4)

    def test_the_eldest_moment_of_an_open_dealing(self):
        made = store()
        self.assertIsNone(made.eldest())
        one, other, third = made.opened(number=3), made.opened(number=2), made.opened(number=2)
        self.assertEqual(made.eldest(), 2)
        other.end()
        other.end()
        self.assertEqual(made.eldest(), 2)
        third.end()
        self.assertEqual(made.eldest(), 3)
        made.take(6, ())
        self.assertEqual(made.eldest(), 3)
        one.end()
        self.assertIsNone(made.eldest())
        made.opened()
        self.assertEqual(made.eldest(), 6)

    def test_what_the_store_tells_of_a_moment(self):
        made = store()
        made.take(6, (("table", "b", ("k", "f")), ("index", "b", "f"), ("index", "t", "k")))
        self.assertEqual(made.shapes(0), {})
        self.assertEqual(made.shapes(3), {"t": ("k", "a")})
        self.assertEqual(made.shapes(6), {"t": ("k", "a"), "u": ("m",), "b": ("k", "f")})
        self.assertEqual([made.indexed(number) for number in (1, 2)], [[], [("t", "a")]])
        self.assertEqual(made.indexed(6), [("b", "f"), ("t", "a"), ("t", "k")])
        told = [made.row("t", 3, number) for number in (0, 1, 2, 3, 6)]
        self.assertEqual(told, [None, (3, 10), (3, 10), (3, 20), (3, 20)])

    def test_dealings_are_apart(self):
        made = store()
        one, other = made.opened(), made.opened()
        one.put("t", (99, 1))
        one.saw("t", {})
        one.make(("table", "x", ("k",)))
        self.assertIsNone(other.row("t", 99))
        self.assertEqual(other.seen(), [])
        self.assertEqual(other.writes(), ())
        self.assertNotIn("x", other.shapes())
        self.assertIsNone(made.opened().row("t", 99))


class Ways(unittest.TestCase):
    def test_by_key(self):
        dealing = opened()
        rows = [(-2, 20), (0, 10), (3, 20), (7, -1)]
        for low, high, expected in (
            (None, None, rows), (0, None, rows[1:]), (1, None, rows[2:]), (None, 3, rows[:3]), (None, 2, rows[:2]),
            (0, 3, rows[1:3]), (-2, -2, rows[:1]), (-1, -1, []), (3, 0, []), (8, None, []), (None, -3, []),
            (-999999, 999999, rows),
        ):
            self.assertEqual(dealing.by_key("t", low, high), expected, (low, high))

    def test_by_index(self):
        dealing = opened()
        rows = [(7, -1), (0, 10), (-2, 20), (3, 20)]
        for low, high, expected in (
            (None, None, rows), (-1, None, rows), (0, None, rows[1:]), (None, 10, rows[:2]), (None, 9, rows[:1]),
            (10, 20, rows[1:]), (20, 20, rows[2:]), (11, 19, []), (20, 10, []), (21, None, []), (None, -2, []),
        ):
            self.assertEqual(dealing.by_index("t", "a", low, high), expected, (low, high))

    def test_a_row_is_told_once_whatever_versions_there_are(self):
        made = store()
        for number, worth in enumerate((10, 20, 10, 10, 30, 20), 6):
            made.take(number, (("row", "t", 3, (3, worth)),))
        for number, worth in enumerate((10, 20, 10, 10, 30, 20), 6):
            rows = made.opened(number=number).by_index("t", "a", None, None)
            self.assertEqual([row for row in rows if row[0] == 3], [(3, worth)])
            self.assertEqual(rows, sorted(rows, key=lambda row: (row[1], row[0])))

    def test_with_its_own_writes(self):
        dealing = opened()
        dealing.put("t", (1, 10))
        dealing.change("t", (3, 5))
        dealing.strike("t", -2)
        self.assertEqual(dealing.rows("t"), [(0, 10), (1, 10), (3, 5), (7, -1)])
        self.assertEqual(dealing.by_key("t", 1, 3), [(1, 10), (3, 5)])
        self.assertEqual(dealing.by_key("t", None, 0), [(0, 10)])
        self.assertEqual(dealing.by_index("t", "a", None, None), [(7, -1), (3, 5), (0, 10), (1, 10)])
        self.assertEqual(dealing.by_index("t", "a", 5, 10), [(3, 5), (0, 10), (1, 10)])
        self.assertEqual(dealing.by_index("t", "a", 20, 20), [])
        self.assertEqual(dealing.count("t"), 4)
        self.assertEqual(dealing.by_index("t", "a", 5, 5), [(3, 5)])

    def test_an_index_that_was_not_there(self):
        made = store()
        for dealing, table, field in (
            (made.opened(number=1), "t", "a"), (made.opened(), "t", "k"), (made.opened(), "u", "m"),
        ):
            with self.assertRaises(BadPlan) as caught:
                dealing.by_index(table, field, None, None)
            self.assertIsInstance(caught.exception, StoreError)
        made.opened(number=2).by_index("t", "a", None, None)

    def test_an_index_that_it_made_itself_was_not_there_at_its_moment(self):
        dealing = opened(1)
        dealing.make(("index", "t", "a"))
        self.assertEqual(dealing.indexed(), [("t", "a")])
        with self.assertRaises(BadPlan):
            dealing.by_index("t", "a", None, None)
        tree = checked(read("pick k from t where a = 10"), dealing.shapes())
        self.assertEqual(done_on(tree, dealing), [(3,), (7,)])

    def test_a_table_that_was_not_there(self):
        dealing = store().opened(number=3)
        self.assertEqual(dealing.rows("u"), [])
        self.assertIsNone(dealing.row("u", 1))
        self.assertIsNone(dealing.version("u", 1))
        self.assertEqual(dealing.rows("x"), [])
        self.assertIsNone(dealing.row("x", 1))


class Writes(unittest.TestCase):
    def test_put_of_a_key_that_is_new(self):
        dealing = opened()
        self.assertIsNone(dealing.put("t", (1, 2)))
        self.assertEqual(dealing.row("t", 1), (1, 2))
        self.assertIsNone(dealing.version("t", 1))
        self.assertEqual(dealing.writes(), (("row", "t", 1, (1, 2)),))
        self.assertEqual(dealing.seen(), [("t", {"k": (1, 1)})])

    def test_put_of_a_key_that_is_there(self):
        dealing = opened()
        with self.assertRaises(Twice) as caught:
            dealing.put("t", (3, 99))
        self.assertIsInstance(caught.exception, StoreError)
        self.assertEqual(dealing.row("t", 3), (3, 20))
        self.assertEqual(dealing.writes(), ())
        self.assertEqual(dealing.seen(), [("t", {"k": (3, 3)})])
        dealing.put("t", (1, 2))
        with self.assertRaises(Twice):
            dealing.put("t", (1, 3))
        self.assertEqual(dealing.row("t", 1), (1, 2))

    def test_put_of_a_key_that_it_struck_or_that_was_struck_by_its_moment(self):
        dealing = opened()
        dealing.strike("t", 3)
        dealing.put("t", (3, 99))
        self.assertEqual(dealing.row("t", 3), (3, 99))
        self.assertEqual(dealing.writes(), (("row", "t", 3, (3, 99)),))
        opened(3).put("t", (7, 1))

    def test_change(self):
        dealing = opened()
        self.assertIsNone(dealing.change("t", (3, 1)))
        self.assertEqual(dealing.row("t", 3), (3, 1))
        self.assertIsNone(dealing.version("t", 3))
        self.assertEqual(dealing.version("t", -2), 1)
        self.assertEqual(dealing.writes(), (("row", "t", 3, (3, 1)),))
        self.assertEqual(dealing.seen(), [])

    def test_strike_of_a_row_that_is_there_and_of_one_that_is_not(self):
        dealing = opened()
        self.assertIsNone(dealing.strike("t", 3))
        self.assertIsNone(dealing.strike("t", 4))
        self.assertIsNone(dealing.row("t", 3))
        self.assertIsNone(dealing.version("t", 3))
        self.assertEqual(dealing.rows("t"), [(-2, 20), (0, 10), (7, -1)])
        self.assertEqual(dealing.writes(), (("row", "t", 3, None),))
        self.assertEqual(dealing.seen(), [])
        dealing.strike("t", 3)
        self.assertEqual(dealing.writes(), (("row", "t", 3, None),))

    def test_none_of_a_key_whose_row_is_as_at_its_moment(self):
        dealing = opened()
        dealing.change("t", (3, 1))
        dealing.change("t", (3, 20))
        dealing.put("t", (1, 1))
        dealing.strike("t", 1)
        dealing.strike("t", 0)
        dealing.put("t", (0, 10))
        self.assertEqual(dealing.writes(), ())
        self.assertIsNone(dealing.version("t", 3))
        self.assertEqual(dealing.rows("t"), opened().rows("t"))

    def test_rows_rise_by_table_and_key(self):
        dealing = opened()
        dealing.put("u", (9,))
        dealing.put("u", (-9,))
        dealing.put("t", (99, 0))
        dealing.change("t", (7, 7))
        dealing.strike("t", -2)
        self.assertEqual(dealing.writes(), (
            ("row", "t", -2, None), ("row", "t", 7, (7, 7)), ("row", "t", 99, (99, 0)),
            ("row", "u", -9, (-9,)), ("row", "u", 9, (9,)),
        ))

    def test_make_of_a_table_and_of_an_index_in_turn_ahead_of_rows(self):
        dealing = opened()
        dealing.strike("t", 3)
        self.assertIsNone(dealing.make(("table", "z", ("k", "f"))))
        dealing.put("z", (1, 2))
        dealing.make(("index", "z", "f"))
        dealing.make(("table", "b", ("k",)))
        self.assertEqual(dealing.shapes(), {"t": ("k", "a"), "u": ("m",), "z": ("k", "f"), "b": ("k",)})
        self.assertEqual(dealing.indexed(), [("t", "a"), ("z", "f")])
        self.assertEqual(dealing.rows("z"), [(1, 2)])
        self.assertEqual(dealing.count("z"), 1)
        self.assertEqual(dealing.count("b"), 0)
        self.assertEqual(dealing.writes(), (
            ("table", "z", ("k", "f")), ("index", "z", "f"), ("table", "b", ("k",)),
            ("row", "t", 3, None), ("row", "z", 1, (1, 2)),
        ))
        self.assertEqual(dealing.seen(), [("z", {"k": (1, 1)})])

    def test_indexes_rise_with_its_own(self):
        dealing = opened()
        dealing.make(("table", "a", ("k", "f")))
        dealing.make(("index", "a", "f"))
        self.assertEqual(dealing.indexed(), [("a", "f"), ("t", "a")])

    def test_what_it_wrote_can_be_taken(self):
        made = store()
        dealing = made.opened()
        dealing.make(("table", "b", ("k", "f")))
        dealing.make(("index", "b", "f"))
        dealing.put("b", (1, 5))
        dealing.strike("t", 3)
        made.take(6, dealing.writes())
        later = made.opened()
        self.assertEqual(later.by_index("b", "f", 5, 5), [(1, 5)])
        self.assertEqual(later.rows("t"), dealing.rows("t"))
        self.assertEqual(later.version("b", 1), 6)
        self.assertEqual(later.writes(), ())


class Seen(unittest.TestCase):
    def test_each_table_with_its_bounds_like_ones_once(self):
        dealing = opened()
        dealing.saw("t", {"k": (1, 1), "a": (None, 5)})
        dealing.saw("u", {"m": (3, None)})
        dealing.saw("t", {"a": (None, 5), "k": (1, 1)})
        dealing.saw("t", {"k": (2, 2)})
        dealing.saw("u", {"m": (3, None)})
        seen = dealing.seen()
        self.assertEqual(seen, [("t", {"k": (1, 1), "a": (None, 5)}), ("u", {"m": (3, None)}), ("t", {"k": (2, 2)})])

    def test_none_is_nothing(self):
        dealing = opened()
        self.assertIsNone(dealing.saw("t", None))
        self.assertEqual(dealing.seen(), [])
        dealing.saw("t", {})
        dealing.saw("t", None)
        self.assertEqual(dealing.seen(), [("t", {})])

    def test_looking_alone_notes_nothing(self):
        dealing = opened()
        dealing.rows("t"), dealing.by_key("t", 1, 2), dealing.by_index("t", "a", 1, 2), dealing.row("t", 1)
        dealing.version("t", 1), dealing.count("t"), dealing.shapes(), dealing.indexed(), dealing.writes()
        self.assertEqual(dealing.seen(), [])

    def test_statements(self):
        dealing = opened()
        for text in ("put t 1 1", "count from t and u where k = m and a > 3", "set t a = 1 where k < 0", "put t 1 1"):
            try:
                done_on(checked(read(text), dealing.shapes()), dealing)
            except Twice:
                pass
        self.assertEqual(dealing.seen(), [
            ("t", {"k": (1, 1)}), ("t", {"a": (4, None)}), ("u", {}), ("t", {"k": (None, -1)}),
        ])


class Kept(unittest.TestCase):
    def test_what_is_told_may_be_changed(self):
        dealing = opened()
        dealing.put("t", (1, 1))
        asks = (
            lambda: dealing.rows("t"), lambda: dealing.by_key("t", 0, 3), lambda: dealing.by_index("t", "a", 0, 99),
            dealing.seen, dealing.shapes, dealing.indexed,
        )
        for ask in asks:
            before = copy.deepcopy(ask())
            ask().clear()
            self.assertEqual(ask(), before)
        dealing.seen()[0][1]["k"] = (9, 9)
        self.assertEqual(dealing.seen(), [("t", {"k": (1, 1)})])

    def test_what_is_handed_in_stays_and_is_copied(self):
        dealing = opened()
        told = {"k": (1, 1)}
        dealing.saw("t", told)
        self.assertEqual(told, {"k": (1, 1)})
        told["k"] = (2, 2)
        told["a"] = (3, 3)
        self.assertEqual(dealing.seen(), [("t", {"k": (1, 1)})])
        fields, row, more = ["k", "a"], [1, 5], [2, 6]
        made = Store()
        made.take(1, (("table", "t", fields), ("row", "t", 1, row)))
        dealing = made.opened()
        dealing.make(("table", "x", fields))
        dealing.put("t", more)
        dealing.change("x", row)
        sides = [1, 2]
        dealing.saw("t", {"a": sides})
        for handed in (fields, row, more, sides):
            handed.clear()
        self.assertEqual(dealing.shapes(), {"t": ("k", "a"), "x": ("k", "a")})
        self.assertEqual(dealing.rows("t"), [(1, 5), (2, 6)])
        self.assertEqual(dealing.rows("x"), [(1, 5)])
        self.assertEqual(dealing.seen(), [("t", {"k": (2, 2)}), ("t", {"a": (1, 2)})])
        writes = tuple(RECORDS)
        before = copy.deepcopy(writes)
        store()
        self.assertEqual(writes, before)


def replayed(records, number):
    """Tables, indexes and rows with the numbers of their records, behind so many records."""
    tables, indexes, rows = {}, [], {}
    for at, writes in enumerate(records[:number], 1):
        for write in writes:
            if write[0] == "table":
                tables[write[1]] = write[2]
            elif write[0] == "index":
                indexes.append(write[1:])
            else:
                rows.pop((write[1], write[2]), None)
                if write[3] is not None:
                    rows[write[1], write[2]] = (at, write[3])
    return tables, sorted(indexes), rows


class Model:
    """A dealing told by looking through all records anew."""

    def __init__(self, records, number):
        self.tables, self.pairs, self.begun = replayed(records, number)
        self.here = dict(self.begun)
        self.own = set()
        self.made = []
        self.old_pairs = list(self.pairs)
        self.noted = []

    def rows(self, table, at=0, low=None, high=None):
        rows = [row for (name, _), (_, row) in self.here.items() if name == table]
        within = [row for row in rows if (low is None or row[at] >= low) and (high is None or row[at] <= high)]
        return sorted(within, key=lambda row: (row[at], row[0]))

    def lay(self, table, key, row):
        self.own.add((table, key))
        self.here.pop((table, key), None)
        if row is not None:
            self.here[table, key] = (None, row)

    def writes(self):
        keys = sorted(self.own)
        changed = [(*key, self.here.get(key, (0, None))[1]) for key in keys
                   if self.here.get(key, (0, None))[1] != self.begun.get(key, (0, None))[1]]
        return (*self.made, *(("row", *change) for change in changed))

    def version(self, table, key):
        return None if (table, key) in self.own else self.here.get((table, key), (None, None))[0]


class AgainstModel(unittest.TestCase):
    def records(self, source):
        """Some records of random writes, each row once in one record."""
        tables, indexes, records = {}, [], []
        for _ in range(source.randint(0, 12)):
            made, rows = [], {}
            if source.random() < 0.3 or not tables:
                name = source.choice("tuvw")
                if name not in tables:
                    tables[name] = ("k", "a", "b")[:source.randint(1, 3)]
                    made.append(("table", name, tables[name]))
            free = [(name, field) for name, fields in tables.items() for field in fields[1:]]
            free = [pair for pair in free if pair not in indexes]
            if free and source.random() < 0.4:
                indexes.append(source.choice(free))
                made.append(("index", *indexes[-1]))
            for _ in range(source.randint(0, 5)):
                table = source.choice(sorted(tables))
                rows[table, source.randint(-3, 3)] = source.random() < 0.7
            written = [("row", table, key, self.row(source, tables[table], key) if lays else None)
                       for (table, key), lays in sorted(rows.items())]
            records.append((*made, *written))
        return records

    def row(self, source, fields, key):
        return (key, *(source.randint(-3, 3) for _ in fields[1:]))

    def same(self, dealing, model, source):
        self.assertEqual(dealing.shapes(), model.tables)
        self.assertEqual(dealing.indexed(), model.pairs)
        self.assertEqual(dealing.writes(), model.writes())
        self.assertEqual(dealing.seen(), model.noted)
        for table, fields in model.tables.items():
            self.assertEqual(dealing.rows(table), model.rows(table))
            self.assertEqual(dealing.count(table), len(model.rows(table)))
            for key in range(-4, 5):
                row = model.here.get((table, key), (None, None))[1]
                self.assertEqual(dealing.row(table, key), row)
                self.assertEqual(dealing.version(table, key), model.version(table, key))
            low, high = (source.choice((None, *range(-4, 5))) for _ in range(2))
            self.assertEqual(dealing.by_key(table, low, high), model.rows(table, 0, low, high))
            for at, field in enumerate(fields):
                if (table, field) in model.old_pairs:
                    self.assertEqual(dealing.by_index(table, field, low, high), model.rows(table, at, low, high))
                else:
                    with self.assertRaises(BadPlan):
                        dealing.by_index(table, field, low, high)

    def write(self, dealing, model, source):
        """One write, done to both."""
        if source.random() < 0.1:
            name = source.choice("wxyz")
            if name not in model.tables:
                write = ("table", name, ("k", "a"))
                dealing.make(write)
                model.made.append(write)
                model.tables[name] = write[2]
            return
        if not model.tables:
            return
        table = source.choice(sorted(model.tables))
        fields = model.tables[table]
        row = self.row(source, fields, source.randint(-3, 3))
        kind = source.choice(("put", "put", "change", "strike", "index"))
        if kind == "put":
            note = (table, {fields[0]: (row[0], row[0])})
            if note not in model.noted:
                model.noted.append(note)
            if (table, row[0]) in model.here:
                with self.assertRaises(Twice):
                    dealing.put(table, row)
            else:
                dealing.put(table, row)
                model.lay(table, row[0], row)
        elif kind == "change" and (table, row[0]) in model.here:
            dealing.change(table, row)
            model.lay(table, row[0], row)
        elif kind == "strike":
            dealing.strike(table, row[0])
            model.lay(table, row[0], None)
        elif kind == "index" and len(fields) > 1 and (table, fields[1]) not in model.pairs:
            dealing.make(("index", table, fields[1]))
            model.made.append(("index", table, fields[1]))
            model.pairs = sorted([*model.pairs, (table, fields[1])])

    def test_random_records_and_dealings(self):
        source = random.Random(11)
        for _ in range(250):
            records = self.records(source)
            made = Store()
            dealings = []
            for number, writes in enumerate(records, 1):
                made.take(number, writes)
                if source.random() < 0.3:
                    moment = source.randint(0, number)
                    dealings.append((made.opened(number=moment), Model(records, moment)))
            dealings.append((made.opened(), Model(records, len(records))))
            for dealing, model in dealings:
                for _ in range(source.randint(0, 12)):
                    self.write(dealing, model, source)
                self.same(dealing, model, source)


class Together(unittest.TestCase):
    """Questions and statements on dealings of random worlds: promises 5, 6, 9 and 11 together."""

    def dealing(self, source, shapes, rows, indexes):
        """A dealing that sees these rows, some of them its own, others taken by several records."""
        made = Store()
        writes = [("table", table, fields) for table, fields in shapes.items()]
        writes += [("index", table, field) for table, field in indexes]
        made.take(1, tuple(writes))
        own = []
        for table in sorted(rows):
            for row in rows[table]:
                late = source.random()
                if late < 0.3:
                    own.append((table, row))
                    continue
                if late < 0.5:
                    made.take(made.newest + 1, (("row", table, row[0], (row[0], *(0 for _ in row[1:]))),))
                made.take(made.newest + 1, (("row", table, row[0], row),))
        dealing = made.opened()
        for table, row in own:
            dealing.put(table, row)
        made.take(made.newest + 1, tuple(("row", table, row[0], None) for table in rows for row in rows[table]))
        return dealing

    def test_each_plan_and_each_statement(self):
        source = random.Random(911)
        asker = worlds.Asker(source)
        for _ in range(250):
            shapes, rows, indexes = asker.world()
            dealing = self.dealing(source, shapes, rows, indexes)
            tree = asker.question(shapes)
            expected = worlds.asked(tree, shapes, rows)
            for plan in all_plans(tree[3], tree[4], shapes, indexes)[:40]:
                self.assertEqual(answer(tree, plan, shapes, dealing), expected)
            before = len(dealing.seen())
            self.assertEqual(done_on(tree, dealing), expected)
            seen = dealing.seen()
            self.assertLessEqual(len(seen) - before, len(tree[3]))
            for table in tree[3]:
                told = bounds(tree[4], table)
                if told is not None:
                    self.assertTrue(any(name == table and is_wider(other, told) for name, other in seen))

    def test_rows_that_fulfil_lie_within_what_was_seen(self):
        source = random.Random(6111)
        asker = worlds.Asker(source)
        struck = 0
        for _ in range(300):
            shapes, rows, indexes = asker.world()
            table = source.choice(sorted(shapes))
            dealing = self.dealing(source, shapes, {table: rows[table]}, indexes)
            where = asker.where((table,), shapes)
            before = dealing.rows(table)
            done_on(("strike", table, where), dealing)
            told = bounds(where, table)
            for row in before:
                if row not in dealing.rows(table):
                    struck += 1
                    self.assertTrue(is_in(row, shapes[table], told))
        self.assertGreater(struck, 100)


if __name__ == "__main__":
    unittest.main()
