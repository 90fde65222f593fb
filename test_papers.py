"""Papers of dealings, and whether they follow: promise 24, but for halls."""

import copy
import unittest

from granary.papers import followed
from granary.planning import plan_text, read_plan
from granary.versions import based

MOMENT = 12
CONTENT = (
    (("t", ("k", "a", "b")), ("u", ("m", "n"))),
    (("t", "a"), ("u", "n")),
    (("t", ((1, 10, 0), (2, 20, 0), (3, 10, 5))), ("u", ((7, 10), (8, 11)))),
)
PICK = "pick k from t where a = 10"
BOTH = "pick t.k, m from t and u where a = n"
COUNT = "count from t where k >= 2 and a = 10 and b > 0"
SET = "set t b = b + 1 where k < 3"

PAPER = (
    MOMENT,
    (
        ("begin", ("told", 0), ""),
        (PICK, ("told", [(1,), (3,)]), "from t by a least 10 most 10"),
        ("begin", ("refused", "Within"), ""),
        ("put t 3 0 0", ("refused", "Twice"), ""),
        ("put t 4 10 1", ("told", 1), ""),
        ("count from", ("refused", "BadText"), ""),
        (SET, ("told", 2), "from t most 2"),
        ("set t a = 999999 + b", ("refused", "TooGreat"), "from t"),
        ("put u 1", ("refused", "BadRow"), ""),
        ("strike v", ("refused", "BadName"), ""),
        (BOTH, ("told", [(1, 7), (3, 7), (4, 7)]), "from u, from t by a first n"),
        ("strike u where n > 10", ("told", 1), "from u by n least 11"),
        ("count from u where 1 = 2", ("told", 0), "not from u"),
        ("done", ("told", 0), ""),
    ),
    (
        ("t", {"a": (10, 10)}), ("t", {"k": (3, 3)}), ("t", {"k": (4, 4)}), ("t", {"k": (None, 2)}), ("t", {}),
        ("u", {}), ("u", {"n": (11, None)}),
    ),
    (("row", "t", 1, (1, 10, 1)), ("row", "t", 2, (2, 20, 1)), ("row", "t", 4, (4, 10, 1)), ("row", "u", 8, None)),
)
# A term tells the fields' tables in a plan's text.
PAPER = (PAPER[0], tuple((t, a, p.replace("first n", "first u.n")) for t, a, p in PAPER[1]), *PAPER[2:])


def spoilt(at, *, text=None, answer=None, plan=None):
    """The paper with one row otherwise."""
    rows = list(PAPER[1])
    told = zip((text, answer, plan), rows[at], strict=True)
    rows[at] = tuple(old if new is None else new for new, old in told)
    return (PAPER[0], tuple(rows), *PAPER[2:])


def one_row(text, answer, plan="", seen=(), writes=()):
    return (MOMENT, ((text, answer, plan),), tuple(seen), tuple(writes))


class Following(unittest.TestCase):
    def test_of_several_statements(self):
        self.assertIsNone(followed(PAPER, CONTENT))

    def test_of_one_statement(self):
        for paper in (
            one_row(PICK, ("told", [(1,), (3,)]), "from t", [("t", {"a": (10, 10)})]),
            one_row("count from t", ("told", 3), "from t", [("t", {})]),
            one_row("table v x y", ("told", 0), writes=[("table", "v", ("x", "y"))]),
            one_row("index t b", ("told", 0), writes=[("index", "t", "b")]),
            one_row("put u 9 9", ("told", 1), "", [("u", {"m": (9, 9)})], [("row", "u", 9, (9, 9))]),
            one_row("strike t", ("told", 3), "from t", [("t", {})], [("row", "t", key, None) for key in (1, 2, 3)]),
            one_row("sum a from t where 1 > 2", ("told", 0), "not from t"),
            one_row("set t a = 10 where a = 10", ("told", 2), "from t by a least 10 most 10", [("t", {"a": (10, 10)})]),
            one_row("begin", ("told", 0)),
        ):
            self.assertIsNone(followed(paper, CONTENT), paper)

    def test_of_nothing(self):
        self.assertIsNone(followed((0, (), (), ()), ((), (), ())))
        self.assertIsNone(followed((MOMENT, (), (("t", {}),), ()), CONTENT))

    def test_by_each_plan_of_the_statement(self):
        sights = [("t", {}), ("u", {})]
        for text, plans in (
            (COUNT, ("from t", "from t least 2", "from t by a least 10 most 10")),
            (BOTH, ("from t, from u", "from t, from u by n first t.a", "from u, from t")),
            (BOTH, ("from u, from t by a first u.n",)),
        ):
            answer = ("told", 1 if text == COUNT else [(1, 7), (3, 7)])
            for plan in plans:
                self.assertIsNone(followed(one_row(text, answer, plan, sights), CONTENT), plan)

    def test_nothing_that_is_handed_in_is_changed(self):
        paper, content = copy.deepcopy(PAPER), copy.deepcopy(CONTENT)
        followed(paper, content)
        self.assertEqual((paper, content), (PAPER, CONTENT))
        self.assertIsNone(followed(paper, content))


class Text(unittest.TestCase):
    def test_a_refusal_that_is_not_so(self):
        for at in (1, 3, 4, 6, 7, 13):
            for word in ("BadText", "BadName", "BadRow", "Within"):
                self.assertEqual(followed(spoilt(at, answer=("refused", word)), CONTENT), ("text", at))

    def test_another_refusal(self):
        for at in (2, 5, 8, 9):
            for word in ("BadText", "BadName", "BadRow", "Within", "Twice", "TooGreat"):
                if PAPER[1][at][1][1] != word:
                    self.assertEqual(followed(spoilt(at, answer=("refused", word)), CONTENT), ("text", at))

    def test_a_refusal_that_lacks(self):
        for at in (2, 5, 8, 9):
            self.assertEqual(followed(spoilt(at, answer=("told", 0)), CONTENT), ("text", at))
        for text in (
            "undo now", "", "put t", "pick k, from t", "put t 9 9", "table t k", "index t a", "table w x", "begin",
        ):
            self.assertEqual(followed(spoilt(4, text=text), CONTENT), ("text", 4), text)
        self.assertEqual(followed(one_row("done", ("told", 0)), CONTENT), ("text", 0))

    def test_an_undo(self):
        self.assertEqual(followed(spoilt(13, text="undo"), CONTENT), ("text", 13))
        self.assertEqual(followed(spoilt(1, text=" undo"), CONTENT), ("text", 1))
        self.assertEqual(followed(one_row("undo", ("told", 0)), CONTENT), ("text", 0))


class Plan(unittest.TestCase):
    def test_no_plan_of_the_statement(self):
        for plan in ("", "from u", "from t by b least 10", "from t least 10", "from t by a least 10", "not from t",
                     "from t, from u", "from t by a least 9 most 10", "from t first 10", "from", "FROM t", "from v",
                     "from t, from t", "from t by a first u.n"):
            self.assertEqual(followed(spoilt(1, plan=plan), CONTENT), ("plan", 1), plan)
        for plan in ("from t", "from t, from u, from u", "from t by a first u.n, from u", "from u, from t by a first n",
                     "from u, from t first u.n", "from t, from u by n first t.b", "from u, from u"):
            self.assertEqual(followed(spoilt(10, plan=plan), CONTENT), ("plan", 10), plan)
        for plan in ("", "from u", "from u by n least 11"):
            self.assertEqual(followed(spoilt(12, plan=plan), CONTENT), ("plan", 12), plan)

    def test_a_plan_where_there_is_none(self):
        for at in (0, 2, 3, 4, 5, 8, 9, 13):
            self.assertEqual(followed(spoilt(at, plan="from t"), CONTENT), ("plan", at))

    def test_a_set_and_a_strike_have_one(self):
        for at in (6, 7, 11):
            self.assertEqual(followed(spoilt(at, plan=""), CONTENT), ("plan", at))
        self.assertEqual(followed(spoilt(6, plan="from t least 2"), CONTENT), ("plan", 6))
        self.assertIsNone(followed(spoilt(6, plan="from t"), CONTENT))

    def test_an_index_that_is_not_there(self):
        without = (CONTENT[0], (), CONTENT[2])
        self.assertEqual(followed(PAPER, without), ("plan", 1))

    def test_a_plan_of_long_terms(self):
        long = " + ".join(["t.a"] * 3000)
        text = f"count from t and u where n = {long}"
        plan = f"from t, from u by n first {long}"
        self.assertIsNone(followed(one_row(text, ("told", 0), plan, [("t", {}), ("u", {})]), CONTENT))
        self.assertEqual(plan_text(read_plan(plan)), plan)


class Saw(unittest.TestCase):
    def test_each_sight_must_be_told(self):
        for without, at in ((("t", {}), 7), (("u", {}), 10)):
            seen = tuple(sight for sight in PAPER[2] if sight != without)
            self.assertEqual(followed((*PAPER[:2], seen, PAPER[3]), CONTENT), ("saw", at))
        self.assertEqual(followed((*PAPER[:2], (), PAPER[3]), CONTENT), ("saw", 1))

    def test_one_that_lies_within_another_may_lack(self):
        self.assertIsNone(followed((*PAPER[:2], (("t", {}), ("u", {})), PAPER[3]), CONTENT))
        paper = one_row("count from t where k = 2", ("told", 1), "from t", [("t", {"k": (1, 2)})])
        self.assertIsNone(followed(paper, CONTENT))
        seen = (("t", {"k": (2, 2), "a": (None, 30)}), ("u", {"k": (2, 2)}), ("t", {"k": (3, None)}), ("t", None))
        self.assertEqual(followed((*paper[:2], seen, ()), CONTENT), ("saw", 0))

    def test_the_key_of_a_put(self):
        for answer in (("told", 1), ("refused", "Twice")):
            text = "put u 9 9" if answer[0] == "told" else "put u 8 9"
            for seen in ((), (("u", {"m": (1, 7)}),), (("t", {}),), (("u", {"m": (8, 9), "n": (0, 0)}),)):
                self.assertEqual(followed(one_row(text, answer, "", seen), CONTENT), ("saw", 0))

    def test_a_statement_that_can_see_nothing(self):
        self.assertIsNone(followed(one_row("strike t where 2 < 1", ("told", 0), "not from t"), CONTENT))


class Answer(unittest.TestCase):
    def test_another_answer(self):
        for at, answers in (
            (0, (("told", 1), ("told", None), ("refused", "Twice"))),
            (1, (("told", [(3,), (1,)]), ("told", [(1,)]), ("told", []), ("told", 2), ("refused", "TooGreat"))),
            (3, (("told", 1), ("refused", "TooGreat"))), (4, (("told", 0), ("refused", "Twice"))),
            (6, (("told", 1), ("refused", "TooGreat"))), (7, (("told", 4), ("refused", "Twice"))),
            (10, (("told", [(1, 7), (3, 7)]),)), (11, (("told", 2),)), (12, (("told", None),)), (13, (("told", 1),)),
        ):
            for answer in answers:
                self.assertEqual(followed(spoilt(at, answer=answer), CONTENT), ("answer", at), (at, answer))

    def test_what_the_store_held(self):
        other = (CONTENT[0], CONTENT[1], (("t", ((1, 10, 0), (2, 10, 0), (3, 10, 5))), CONTENT[2][1]))
        self.assertEqual(followed(PAPER, other), ("answer", 1))


class Writes(unittest.TestCase):
    def test_other_writes(self):
        writes = PAPER[3]
        struck = (("row", "t", 1, None),)
        for other in ((), writes[1:], writes[:-1], writes[::-1], writes + writes[:1], struck + writes[1:]):
            self.assertEqual(followed((*PAPER[:3], other), CONTENT), ("writes", len(PAPER[1])))
        self.assertEqual(followed(one_row("table v x", ("told", 0)), CONTENT), ("writes", 1))
        self.assertEqual(followed((MOMENT, (), (), writes), CONTENT), ("writes", 0))

    def test_the_first_is_told(self):
        rows = list(PAPER[1])
        rows[4] = ("put t 4 10 1", ("told", 0), "from t")
        rows[6] = (SET, ("told", 9), "from u")
        self.assertEqual(followed((MOMENT, tuple(rows), (), ()), CONTENT), ("saw", 1))
        self.assertEqual(followed((MOMENT, tuple(rows), PAPER[2], ()), CONTENT), ("plan", 4))
        rows[4] = ("put t 4 10 1", ("told", 0), "")
        self.assertEqual(followed((MOMENT, tuple(rows), PAPER[2], ()), CONTENT), ("answer", 4))
        rows[4] = PAPER[1][4]
        self.assertEqual(followed((MOMENT, tuple(rows), PAPER[2], ()), CONTENT), ("plan", 6))


class Stores(unittest.TestCase):
    def test_the_paper_s_content_is_what_a_store_tells(self):
        self.assertEqual(based(MOMENT, CONTENT).content(MOMENT), CONTENT)


if __name__ == "__main__":
    unittest.main()
