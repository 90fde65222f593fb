"""The plain store: promise 15, but for judges, with the words of 20 for what is refused; of 5 and 9 whatever plan."""

import random
import unittest

import worlds
from granary.errors import TooGreat, Twice
from granary.names import checked
from granary.plain import Plain, plain_of
from granary.plans import all_plans
from granary.statements import done_by
from granary.texts import read, written
from granary.versions import based

BEGUN = ("table t k a", "put t 3 10", "put t -1 20", "put t 7 10", "table u m", "put u 5")


def told(*texts):
    return plain_of([*BEGUN, *texts])[0][len(BEGUN):]


class Telling(unittest.TestCase):
    def test_each_statement(self):
        for text, answer in (
            ("table v a b c d", 0), ("index t a", 0), ("put t 4 -5", 1), ("put u 0", 1),
            ("set t a = a * 2 where k > 0", 2), ("set t a = 0", 3), ("set t a = 0 where k = 9", 0),
            ("strike t where a = 10", 2), ("strike t", 3), ("strike u where 1 = 2", 0),
            ("pick k, a + 1 from t", [(-1, 21), (3, 11), (7, 11)]), ("pick k from t by a, 0 - k first 2", [(7,), (3,)]),
            ("pick t.k, m from t and u where m > k", [(-1, 5), (3, 5)]), ("pick k from t first 0", []),
            ("count from t", 3), ("count from t and u", 3), ("count from t where a = k", 0),
            ("sum a from t where k > 0", 20), ("sum a from t where k > 9", 0), ("least a from t", 10),
            ("most a * k from t", 70), ("least a from t where k = 0", None), ("most a from t where k = 0", None),
        ):
            self.assertEqual(told(text), [("told", answer)], text)

    def test_what_they_leave(self):
        self.assertEqual(told("put t 4 -5", "pick k, a from t")[1], ("told", [(-1, 20), (3, 10), (4, -5), (7, 10)]))
        self.assertEqual(told("set t a = k, a = 1", "count from t where a = 1"), [("refused", "BadName"), ("told", 0)])
        self.assertEqual(told("set t a = a + k where a = 10", "pick a from t")[1], ("told", [(20,), (13,), (17,)]))
        self.assertEqual(told("strike t where a = 10", "pick k, a from t")[1], ("told", [(-1, 20)]))
        self.assertEqual(told("strike t", "put t 3 1", "pick a from t")[1:], [("told", 1), ("told", [(1,)])])

    def test_nothing_is_there_at_first(self):
        plain = Plain()
        self.assertEqual(plain.tell("count from t"), ("refused", "BadName"))
        self.assertEqual(plain.tell("table t k"), ("told", 0))
        self.assertEqual(plain.tell("count from t"), ("told", 0))

    def test_a_text_of_more_than_one_line_of_terms(self):
        long = " + ".join(["k"] * 2000)
        self.assertEqual(told(f"sum {long} from t"), [("told", 2000 * 9)])


class Dealings(unittest.TestCase):
    def test_begin_done_and_undo(self):
        self.assertEqual(told("begin", "put t 1 1", "strike t where a = 10", "done", "pick k from t"),
                         [("told", 0), ("told", 1), ("told", 2), ("told", 0), ("told", [(-1,), (1,)])])
        self.assertEqual(told("begin", "put t 1 1", "strike t where a = 10", "set t a = 1", "undo", "pick k, a from t"),
                         [("told", 0), ("told", 1), ("told", 2), ("told", 2), ("told", 0),
                          ("told", [(-1, 20), (3, 10), (7, 10)])])

    def test_what_a_dealing_sees(self):
        self.assertEqual(told("begin", "put t 1 1", "count from t", "undo", "count from t")[2:],
                         [("told", 4), ("told", 0), ("told", 3)])

    def test_undo_lets_tables_and_indexes_be(self):
        self.assertEqual(told("table v k", "index t a", "begin", "put v 1", "undo", "count from v", "index t a")[5:],
                         [("told", 0), ("refused", "BadName")])

    def test_undo_is_back_to_its_own_begin_alone(self):
        self.assertEqual(told("begin", "put t 1 1", "done", "begin", "put t 2 2", "undo", "pick k from t")[-1],
                         ("told", [(-1,), (1,), (3,), (7,)]))
        twice = told("put t 1 1", "begin", "undo", "begin", "strike t", "undo", "count from t")
        self.assertEqual(twice[-1], ("told", 4))

    def test_out_of_turn(self):
        self.assertEqual(told("done", "undo"), [("refused", "Within")] * 2)
        self.assertEqual(told("begin", "begin", "table v k", "index t a", "undo", "undo"),
                         [("told", 0)] + [("refused", "Within")] * 3 + [("told", 0), ("refused", "Within")])
        self.assertEqual(told("begin", "done", "done"), [("told", 0), ("told", 0), ("refused", "Within")])
        self.assertEqual(told("begin", "begin", "count from t", "done", "begin"),
                         [("told", 0), ("refused", "Within"), ("told", 3), ("told", 0), ("told", 0)])


class Refusing(unittest.TestCase):
    def test_each_word(self):
        for text, word in (
            ("", "BadText"), ("put t 01 2", "BadText"), ("table from k", "BadText"), ("begin now", "BadText"),
            ("count from v", "BadName"), ("table t a", "BadName"), ("index t k", "BadName"), ("put v 1", "BadName"),
            ("set u m = 1", "BadName"), ("put t 1", "BadRow"), ("put u 1 2", "BadRow"),
            ("put t 3 1", "Twice"), ("put u 5", "Twice"),
            ("set t a = 999999 + k where k = 7", "TooGreat"), ("set t a = 0 - 999999 + k", "TooGreat"),
            ("done", "Within"), ("undo", "Within"),
        ):
            self.assertEqual(told(text), [("refused", word)], text)

    def test_what_is_refused_changes_nothing(self):
        plain = plain_of(BEGUN)[1]
        before = plain.tell("pick k, a from t")
        for text in ("put t 3 1", "set t a = 999993 + k where k = 3 or k = 7", "set t a = 1, k = 2", "put t 4", "done"):
            self.assertEqual(plain.tell(text)[0], "refused")
            self.assertEqual(plain.tell("pick k, a from t"), before)
        plain.tell("begin")
        plain.tell("put t 1 1")
        for text in ("begin", "table v k", "put t 3 3", "pick", "set t a = a * 999999"):
            self.assertEqual(plain.tell(text)[0], "refused")
        self.assertEqual(plain.tell("done"), ("told", 0))
        self.assertEqual(plain.tell("count from t"), ("told", 4))

    def test_their_order(self):
        within = ("begin",)
        for text, word in (
            ("begin begin", "BadText"), ("table t", "BadText"), ("table t a", "BadName"), ("table v a a", "BadName"),
            ("table v a", "Within"), ("index t k", "BadName"), ("index v a", "BadName"), ("index t a", "Within"),
            ("put t 3", "BadRow"), ("put v 3", "BadName"), ("put t 3 3", "Twice"),
        ):
            self.assertEqual(told(*within, text)[-1], ("refused", word), text)
        for text, word in (("done done", "BadText"), ("undo from", "BadText"), ("done", "Within")):
            self.assertEqual(told(text)[-1], ("refused", word), text)

    def test_the_greatest_that_a_row_holds(self):
        self.assertEqual(told("set t a = 999999 where k = 3", "set t a = 0 - 999999", "set t a = a - 1"),
                         [("told", 1), ("told", 3), ("refused", "TooGreat")])


class Copies(unittest.TestCase):
    def test_they_go_on_apart(self):
        one = plain_of(BEGUN)[1]
        other = one.copy()
        one.tell("put t 1 1")
        other.tell("strike t")
        other.tell("table v k")
        other.tell("index t a")
        self.assertEqual(one.tell("count from t"), ("told", 4))
        self.assertEqual(one.tell("count from v"), ("refused", "BadName"))
        self.assertEqual(one.tell("index t a"), ("told", 0))
        self.assertEqual(other.tell("count from t"), ("told", 0))

    def test_amid_a_dealing(self):
        one = plain_of([*BEGUN, "begin", "put t 1 1"])[1]
        other = one.copy()
        third = other.copy()
        self.assertEqual(one.tell("undo"), ("told", 0))
        self.assertEqual(one.tell("count from t"), ("told", 3))
        self.assertEqual(other.tell("put t 2 2"), ("told", 1))
        self.assertEqual(other.tell("done"), ("told", 0))
        self.assertEqual(other.tell("count from t"), ("told", 5))
        self.assertEqual(third.tell("undo"), ("told", 0))
        self.assertEqual(third.tell("count from t"), ("told", 3))

    def test_two_plain_stores_are_apart(self):
        one, other = Plain(), Plain()
        one.tell("table t k")
        self.assertEqual(other.tell("count from t"), ("refused", "BadName"))


class Lists(unittest.TestCase):
    def test_plain_of_tells_what_each_tell_tells(self):
        texts = [*BEGUN, "begin", "put t 3 3", "strike u", "pick k from t", "undo", "count from u", "nonsense"]
        plain = Plain()
        expected = [plain.tell(text) for text in texts]
        given = list(texts)
        answers, other = plain_of(texts)
        self.assertEqual(texts, given)
        self.assertEqual(answers, expected)
        self.assertIsInstance(other, Plain)
        self.assertEqual(other.tell("pick k, a from t"), plain.tell("pick k, a from t"))
        nothing = plain_of([])
        self.assertEqual((nothing[0], nothing[1].tell("count from t")), ([], ("refused", "BadName")))
        self.assertEqual(plain_of(tuple(texts))[0], expected)

    def test_what_is_told_may_be_changed(self):
        plain = plain_of(BEGUN)[1]
        answer = plain.tell("pick k from t")
        answer[1].append((0,))
        answer[1][0] = None
        self.assertEqual(plain.tell("pick k from t"), ("told", [(-1,), (3,), (7,)]))


class Whatever(unittest.TestCase):
    """The same texts, told to a plain store and done on dealings by each of all plans: promises 5, 9 and 15."""

    def by_plan(self, tree, plan, dealing):
        try:
            return ("told", done_by(tree, plan, dealing))
        except (Twice, TooGreat) as error:
            return ("refused", error.__class__.__name__)

    def text(self, asker, shapes):
        table = asker.source.choice(sorted(shapes))
        kind = asker.source.randint(0, 9)
        if kind == 0:
            return "put " + " ".join([table] + [str(asker.worth()) for _ in shapes[table]])
        if kind < 3 and len(shapes[table]) > 1:
            setting = (asker.source.choice(shapes[table][1:]), asker.term((table,), shapes))
            return written(("set", table, (setting,), asker.where((table,), shapes)))
        if kind == 3:
            return written(("strike", table, asker.where((table,), shapes)))
        return written(asker.question(shapes))

    def test_whatever_plan(self):
        for seed in range(60):
            asker = worlds.Asker(random.Random(seed))
            shapes, rows, indexes = asker.world()
            content = (tuple(sorted(shapes.items())), tuple(indexes), tuple(sorted(rows.items())))
            texts = [f"table {table} " + " ".join(fields) for table, fields in shapes.items()]
            texts += [f"index {table} {field}" for table, field in indexes]
            texts += [f"put {table} " + " ".join(map(str, row)) for table in rows for row in rows[table]]
            plain = plain_of(texts)[1]
            dealing = based(5, content).opened()
            for _ in range(12):
                self.tell(plain, dealing, self.text(asker, shapes), content)

    def tell(self, plain, dealing, text, content):
        expected = plain.tell(text)
        tree = checked(read(text), dealing.shapes(), dealing.indexed())
        tables = {"ask": lambda: tree[3], "put": lambda: ()}.get(tree[0], lambda: (tree[1],))()
        condition = tree[4] if tree[0] == "ask" else tree[-1]
        plans = all_plans(tables, condition, dealing.shapes(), dealing.indexed()) if tables else [()]
        for plan in plans[:40] if tree[0] == "ask" else plans[1:40]:
            one = dealing if tree[0] == "ask" else self.same(dealing, content)
            self.assertEqual(self.by_plan(tree, plan, one), expected, (text, plan))
        if tree[0] != "ask":
            self.assertEqual(self.by_plan(tree, plans[0], dealing), expected, text)

    def same(self, dealing, content):
        """A dealing that wrote what another one did."""
        other = based(5, content).opened()
        for _, table, key, row in dealing.writes():
            if row is None:
                other.strike(table, key)
            else:
                other.change(table, row)
        return other


if __name__ == "__main__":
    unittest.main()
