"""What askers are told, what became of their dealings, what is told of a hall: promises 20, 21, 24 and 26."""

import unittest

from granary.bounds import bounds
from granary.errors import BadName, BadNumber, BadPlan, BadRow, BadText
from granary.halls import Hall
from granary.names import checked
from granary.papers import followed
from granary.planning import plan_text
from granary.plans import all_plans, cost
from granary.texts import read
from posting import ask, come, led, lose, settle, take_over

BEGUN = (
    "table t k a", "index t a", "begin", "put t 1 10", "put t 2 20", "put t 3 10", "done",
    "table u m n", "begin", "put u 5 10", "put u 6 11", "done",
)
RECORDS = 6


def begun(houses=3, askers=4):
    """A hall with two tables, all of it done and known to all."""
    hall = led(houses, askers)
    ask(hall, *BEGUN)
    settle(hall)
    hall.beat(0)
    return settle(hall)


class Away(unittest.TestCase):
    def test_no_leader(self):
        hall = Hall()
        for text in ("begin", "count from t", "nonsense", ""):
            self.assertEqual(hall.ask(0, text), ("away",))
        self.assertEqual((hall.count_tickets(), hall.letters()), (0, []))

    def test_another_leads(self):
        hall = begun()
        hall.turn(1, 2)
        self.assertEqual(hall.ask(1, "count from t"), ("away",))
        self.assertEqual(hall.ask(2, "count from t"), ("waits", 5, 3))

    def test_a_house_that_is_not_up(self):
        hall = begun()
        hall.fall(0)
        self.assertEqual(hall.ask(0, "count from t"), ("away",))
        hall.rise(0)
        self.assertEqual(hall.ask(0, "count from t"), ("away",))

    def test_a_dealing_is_dropped_with_it(self):
        hall = begun()
        ask(hall, "begin", "put t 9 9")
        hall.fall(0)
        self.assertEqual(hall.underway(0)[0], RECORDS)
        self.assertEqual(hall.ask(0, "done"), ("away",))
        self.assertIsNone(hall.underway(0))
        hall.rise(0)
        hall.takeover(0)
        settle(hall)
        self.assertEqual(hall.ask(0, "done"), ("refused", "Within"))
        self.assertEqual(hall.ask(0, "count from t"), ("waits", 5, 3))

    def test_a_term_that_changed_amid_a_dealing(self):
        hall = begun()
        ask(hall, "begin", "put t 9 9")
        hall.takeover(0)
        settle(hall)
        self.assertEqual(hall.leaders(), [0])
        self.assertEqual(hall.ask(0, "count from t"), ("away",))
        self.assertIsNone(hall.underway(0))
        self.assertEqual(ask(hall, "begin", "count from t"), ("told", 3))

    def test_a_house_that_rose_with_lets_under_way(self):
        """Its disk is in the dealing's term yet, and the letters that let it lead there come late."""
        for houses in (3, 4, 5):
            for last in ("done", "undo", "begin", "put t 2", "nonsense"):
                hall = Hall(houses=houses)
                hall.takeover(0)
                come(hall, "ask")
                for _ in range(houses // 2):
                    hall.come()
                ask(hall, "table t k", "begin", "put t 1")
                hall.fall(0)
                hall.rise(0)
                self.assertEqual(come(hall, "let"), houses - 1 - houses // 2)
                self.assertEqual((hall.leaders(), hall.known(0)[0]), ([], 1))
                self.assertEqual(hall.ask(0, last), ("away",))
                self.assertIsNone(hall.underway(0))
                self.assertEqual((hall.count_tickets(), hall.log(0)), (1, [(1, 1, -1, -1), (1, 2, 0, 0)]))

    def test_a_house_that_rose_and_leads_anew(self):
        """It leads in a later term, whether or not one asked amid that."""
        for amid in (False, True):
            hall = begun()
            ask(hall, "begin", "put t 9 9")
            hall.fall(0)
            hall.rise(0)
            if amid:
                self.assertEqual(hall.ask(0, "put t 8 8"), ("away",))
            take_over(hall, 0)
            self.assertEqual((hall.leaders(), hall.known(0)[0]), ([0], 2))
            self.assertEqual(hall.ask(0, "done"), ("refused", "Within") if amid else ("away",))
            self.assertEqual(hall.ask(0, "count from t"), ("waits", 5, 3))

    def test_one_that_takes_itself_for_the_leader(self):
        hall = begun()
        hall.takeover(2)
        come(hall, "ask", 2, 1)
        come(hall, "let")
        self.assertEqual(hall.leaders(), [0, 2])
        self.assertEqual(hall.ask(0, "put t 9 9"), ("waits", 5, 1))
        hall.turn(1, 2)
        self.assertEqual(hall.ask(1, "put t 9 8"), ("waits", 6, 1))
        settle(hall)
        self.assertEqual([hall.found(ticket) for ticket in (5, 6)], ["gone", "done"])


class Telling(unittest.TestCase):
    def test_one_statement_outside(self):
        hall = begun()
        for text, answer in (
            ("table v k", 0), ("index u n", 0), ("put t 4 40", 1), ("set t a = a + 1 where a = 10", 2), ("strike u", 2),
            ("pick k, a from t", [(1, 11), (2, 20), (3, 11), (4, 40)]), ("count from u", 0), ("least a from t", 11),
            ("most n from u", None),
        ):
            tickets = hall.count_tickets()
            self.assertEqual(hall.ask(3, text), ("waits", tickets, answer))
            self.assertEqual(hall.count_tickets(), tickets + 1)
            self.assertIsNone(hall.underway(3))

    def test_a_dealing_of_several(self):
        hall = begun()
        for text, told in (
            ("begin", ("told", 0)), ("put t 4 40", ("told", 1)), ("pick k from t where a > 15", ("told", [(2,), (4,)])),
            ("set t a = 0 where k = 4", ("told", 1)), ("strike t where k = 1", ("told", 1)),
            ("sum a from t", ("told", 30)), ("done", ("waits", 5, 0)),
        ):
            self.assertEqual(hall.ask(2, text), told)
        settle(hall)
        self.assertEqual(hall.found(5), "done")
        self.assertEqual(hall.content(0, RECORDS + 1)[2][0], ("t", ((2, 20), (3, 10), (4, 0))))

    def test_an_empty_dealing(self):
        hall = begun()
        self.assertEqual(ask(hall, "begin", "done"), ("waits", 5, 0))
        self.assertEqual(hall.log(0)[-1], (1, 7, 0, 5))

    def test_undo(self):
        hall = begun()
        self.assertEqual(ask(hall, "begin", "strike t", "undo"), ("told", 0))
        self.assertIsNone(hall.underway(0))
        self.assertEqual((hall.count_tickets(), hall.letters()), (5, []))
        self.assertEqual(hall.ask(0, "count from t"), ("waits", 5, 3))

    def test_it_sees_its_moment(self):
        hall = begun()
        ask(hall, "begin", "count from u")
        hall.ask(1, "put t 9 9")
        hall.ask(1, "strike t where k = 1")
        self.assertEqual(hall.ask(0, "pick k from t"), ("told", [(1,), (2,), (3,)]))
        self.assertEqual(hall.underway(0)[0], RECORDS)

    def test_it_sees_records_that_are_not_done_yet(self):
        hall = begun()
        hall.ask(1, "put t 9 9")
        lose(hall)
        self.assertEqual(hall.ask(0, "count from t"), ("waits", 6, 4))

    def test_a_dealing_goes_on_behind_pages(self):
        hall = begun()
        ask(hall, "begin", "pick k from t")
        for number in range(10, 14):
            hall.ask(1, f"put u {number} 0")
        settle(hall)
        hall.checkpoint(0)
        self.assertEqual(hall.known(0)[1], RECORDS + 4)
        self.assertEqual(hall.ask(0, "count from u"), ("told", 2))
        self.assertEqual(hall.ask(0, "done"), ("clash",))
        self.assertEqual(hall.ask(0, "count from u"), ("waits", 9, 6))
        ask(hall, "begin", "pick k from t")
        hall.ask(1, "put u 99 0")
        settle(hall)
        hall.checkpoint(0)
        self.assertEqual(hall.ask(0, "done"), ("waits", 11, 0))


class Refusing(unittest.TestCase):
    def test_each_word_outside(self):
        hall = begun()
        for text, word in (
            ("", "BadText"), ("put t", "BadText"), ("count from v", "BadName"), ("index t a", "BadName"),
            ("table t k", "BadName"), ("put t 1", "BadRow"), ("put t 1 1", "Twice"),
            ("set t a = a * 999999", "TooGreat"), ("done", "Within"), ("undo", "Within"), ("done now", "BadText"),
        ):
            self.assertEqual(hall.ask(0, text), ("refused", word), text)
            self.assertIsNone(hall.underway(0))
        self.assertEqual((hall.count_tickets(), hall.letters(), hall.known(0)[2]), (5, [], RECORDS))

    def test_each_word_within_and_the_dealing_goes_on(self):
        hall = begun()
        ask(hall, "begin", "put t 9 9")
        for text, word in (
            ("", "BadText"), ("begin a", "BadText"), ("table v", "BadText"), ("table t k", "BadName"),
            ("table v a a", "BadName"), ("index t k", "BadName"), ("index t a", "BadName"), ("table v a", "Within"),
            ("index u n", "Within"), ("begin", "Within"), ("put t 9", "BadRow"), ("put t 9 1", "Twice"),
            ("put v 9 1", "BadName"), ("set t a = a * 999999", "TooGreat"),
        ):
            self.assertEqual(hall.ask(0, text), ("refused", word), text)
            self.assertEqual(hall.underway(0)[1][-1], text)
        self.assertEqual(hall.ask(0, "pick k, a from t"), ("told", [(1, 10), (2, 20), (3, 10), (9, 9)]))
        self.assertEqual(hall.ask(0, "done"), ("waits", 5, 0))
        texts, answers, ticket = hall.dealings(0)[-1]
        self.assertEqual((len(texts), ticket, answers[2]), (18, 5, ("refused", "BadText")))


class Clash(unittest.TestCase):
    def clash(self, within, later, last="done"):
        hall = begun()
        ask(hall, "begin", *within)
        for text in later:
            self.assertEqual(hall.ask(1, text)[0], "waits", text)
        tickets, letters = hall.count_tickets(), hall.letters()
        told = hall.ask(0, last)
        if told == ("clash",):
            self.assertEqual((hall.count_tickets(), hall.letters()), (tickets, letters))
        self.assertIsNone(hall.underway(0))
        return told[0]

    def test_what_it_saw_was_written(self):
        for within, later, told in (
            (["pick k from t where a = 10"], ["put t 9 10"], "clash"),
            (["pick k from t where a = 10"], ["put t 9 11"], "waits"),
            (["pick k from t where a = 10"], ["set t a = 11 where k = 1"], "clash"),
            (["count from t where k < 2"], ["strike t where k = 1"], "clash"),
            (["count from t where k < 2"], ["strike t where k = 2"], "waits"),
            (["count from t"], ["put u 9 9"], "waits"), (["count from t and u"], ["put u 9 9"], "clash"),
            (["count from t where 1 = 2"], ["strike t"], "waits"), ([], ["strike t", "strike u"], "waits"),
            (["put t 9 9"], ["put t 9 9", "strike t where k = 9"], "clash"), (["put t 9 9"], ["put t 8 9"], "waits"),
            (["put t 1 9"], ["strike t where k = 1"], "clash"), (["set t a = 1 where k = 1"], ["put t 7 7"], "waits"),
            (["set t a = 999999 * a"], ["put t 7 7"], "clash"), (["strike t where a = 11"], ["put t 7 11"], "clash"),
            (["nonsense", "count from v"], ["strike t"], "waits"), (["count from t"], ["set t a = a"], "waits"),
            (["count from t"], ["table v k"], "clash"), ([], ["table v k"], "clash"), ([], ["index u n"], "clash"),
            (["count from t"], ["pick k from t"], "waits"), (["count from t"], [], "waits"),
        ):
            self.assertEqual(self.clash(within, later), told, (within, later))

    def test_a_dropped_one_may_be_told_again(self):
        hall = begun()
        ask(hall, "begin", "count from t")
        hall.ask(1, "put t 9 9")
        self.assertEqual(hall.ask(0, "done"), ("clash",))
        self.assertEqual(ask(hall, "begin", "count from t", "done"), ("waits", 6, 0))
        answers = [("told", 0), ("told", 4), ("told", 0)]
        self.assertEqual(hall.dealings(0)[-1], (["begin", "count from t", "done"], answers, 6))

    def test_undo_does_not_clash(self):
        self.assertEqual(self.clash(["count from t"], ["put t 9 9"], "undo"), "told")


class Turning(unittest.TestCase):
    def test_house_of(self):
        hall = begun()
        self.assertEqual([hall.house_of(asker) for asker in range(4)], [0] * 4)
        self.assertIsNone(hall.turn(1, 2))
        self.assertEqual([hall.house_of(asker) for asker in range(4)], [0, 2, 0, 0])

    def test_what_is_open_is_dropped(self):
        for house in (0, 1):
            hall = begun()
            ask(hall, "begin", "put t 9 9")
            hall.turn(0, house)
            self.assertIsNone(hall.underway(0))
            hall.turn(0, 0)
            self.assertEqual(hall.ask(0, "done"), ("refused", "Within"))
            self.assertEqual(hall.ask(0, "count from t"), ("waits", 5, 3))

    def test_a_refused_turn_changes_nothing(self):
        hall = begun()
        ask(hall, "begin")
        with self.assertRaises(BadNumber):
            hall.turn(0, 3)
        self.assertEqual((hall.house_of(0), hall.underway(0)), (0, (RECORDS, ["begin"], [])))


class Amid(unittest.TestCase):
    def test_a_house_that_falls_amid_the_append(self):
        for many, cut, stands in ((0, 0, False), (0, 3, False), (1, 0, False), (1, 1, True), (1, 2, True)):
            hall = begun()
            hall.arm(0, many)
            self.assertEqual(hall.ask(0, "put t 9 9"), ("waits", 5, 1))
            self.assertEqual((hall.leaders(), hall.letters(), hall.count_tickets()), ([], [], 6))
            self.assertEqual((hall.found(5), hall.shown(5)[2:]), ("unknown", (0, 1, RECORDS + 1, [])))
            hall.rise(0, cut=cut)
            self.assertEqual(hall.shown(5)[5], [0] if stands else [])
            hall.takeover(0)
            settle(hall)
            self.assertEqual(hall.found(5), "done" if stands else "gone")
            self.assertEqual(hall.ask(0, "count from t"), ("waits", 6, 4 if stands else 3))
            self.assertIsNone(followed(hall.paper(5), hall.content(0, RECORDS)))

    def test_enough_power(self):
        hall = begun()
        hall.arm(0, 2)
        self.assertEqual(hall.ask(0, "put t 9 9"), ("waits", 5, 1))
        self.assertEqual((hall.leaders(), len(hall.letters())), ([0], 2))


class Found(unittest.TestCase):
    def test_done_gone_and_unknown(self):
        hall = begun()
        ask(hall, "put t 7 7")
        self.assertEqual(hall.found(5), "unknown")
        come(hall, to=1)
        come(hall, "have")
        self.assertEqual(hall.found(5), "done")
        ask(hall, "put t 8 8")
        lose(hall)
        take_over(hall, 1)
        self.assertEqual(hall.found(6), "unknown")
        settle(hall)
        self.assertEqual((hall.found(5), hall.found(6)), ("done", "gone"))

    def test_ever_since(self):
        hall = begun()
        ask(hall, "put t 7 7")
        come(hall, "send")
        come(hall, "have")
        ask(hall, "put t 8 8")
        lose(hall)
        take_over(hall, 2)
        settle(hall)
        for house in range(3):
            hall.checkpoint(house)
            hall.fall(house)
            self.assertEqual([hall.found(ticket) for ticket in range(7)], ["done"] * 6 + ["gone"])
            hall.rise(house)
            self.assertEqual([hall.found(ticket) for ticket in range(7)], ["done"] * 6 + ["gone"])

    def test_only_a_house_knows(self):
        """All have it, but none knows: it is unknown, until one leads again."""
        hall = begun()
        ask(hall, "put t 7 7")
        come(hall, "send")
        lose(hall)
        self.assertEqual((hall.shown(5)[5], hall.found(5)), ([0, 1, 2], "unknown"))
        hall.fall(0)
        take_over(hall, 1)
        self.assertEqual(hall.found(5), "unknown")
        settle(hall)
        self.assertEqual(hall.found(5), "done")

    def test_a_single_house(self):
        hall = Hall(houses=1)
        hall.takeover(0)
        self.assertEqual(hall.ask(0, "table t k"), ("waits", 0, 0))
        self.assertEqual((hall.found(0), hall.known(0), hall.letters()), ("done", (1, 0, 2, 2), []))


class Shown(unittest.TestCase):
    def test_dealings(self):
        hall = begun()
        self.assertEqual(hall.dealings(1), [])
        expected = [
            (["table t k a"], [("told", 0)], 0), (["index t a"], [("told", 0)], 1),
            (list(BEGUN[2:7]), [("told", 0), ("told", 1), ("told", 1), ("told", 1), ("told", 0)], 2),
            (["table u m n"], [("told", 0)], 3),
            (list(BEGUN[8:]), [("told", 0), ("told", 1), ("told", 1), ("told", 0)], 4),
        ]
        self.assertEqual(hall.dealings(0), expected)
        ask(hall, "nonsense", "begin", "count from t", "undo", "done", "pick k from t first 1", asker=1)
        self.assertEqual(hall.dealings(0), expected)
        self.assertEqual(hall.dealings(1), [(["pick k from t first 1"], [("told", [(1,)])], 5)])

    def test_shown(self):
        hall = begun()
        self.assertEqual(hall.shown(1), (["index t a"], [("told", 0)], 0, 1, 3, [0, 1, 2]))
        hall.checkpoint(1)
        self.assertEqual(hall.shown(1)[5], [0, 2])
        hall.ask(2, "begin")
        hall.ask(2, "done")
        come(hall, "send", to=1)
        self.assertEqual(hall.shown(5)[2:], (0, 1, 7, [0, 1]))
        settle(hall)
        hall = begun()
        hall.checkpoint(1)
        hall.fall(2)
        self.assertEqual(hall.shown(1)[5], [0, 2])
        hall.turn(3, 0)
        ask(hall, "begin", "put t 1 1", "done", asker=3)
        answers = [("told", 0), ("refused", "Twice"), ("told", 0)]
        self.assertEqual(hall.shown(5), (["begin", "put t 1 1", "done"], answers, 0, 1, 7, [0]))
        lose(hall)
        hall.takeover(1)
        lose(hall)
        hall.rise(2)
        take_over(hall, 1)
        settle(hall)
        self.assertEqual((hall.leaders(), hall.shown(5)[2:], hall.found(5)), ([1], (0, 1, 7, []), "gone"))

    def test_what_is_told_may_be_changed(self):
        hall = begun()
        told = hall.ask(0, "pick k from t")
        told[2].clear()
        ask(hall, "begin", asker=1)
        within = hall.ask(1, "pick k from t")
        within[1].clear()
        texts, answers, *_, houses = hall.shown(5)
        texts.clear(), houses.append(9), answers[0][1].append(0), answers.clear()
        for texts, answers, _ in hall.dealings(0):
            texts.clear(), answers.clear()
        hall.dealings(0)[-1][1][0][1].clear()
        hall.dealings(0).clear()
        moment, texts, seen = hall.underway(1)
        texts.clear(), seen[0][1].update(k=(1, 1)), seen.clear()
        _, rows, seen, _ = hall.paper(5)
        rows[0][1][1].clear(), seen[0][1].update(k=(1, 1))
        hall.log(0).clear(), hall.leaders().clear(), hall.letters().clear()
        shapes, indexes = hall.shaped(0)
        shapes.clear(), indexes.clear()
        self.assertEqual(hall.shown(5), (["pick k from t"], [("told", [(1,), (2,), (3,)])], 0, 1, 7, [0]))
        self.assertEqual(hall.dealings(0)[-1], (["pick k from t"], [("told", [(1,), (2,), (3,)])], 5))
        self.assertEqual(len(hall.dealings(0)), 6)
        self.assertEqual(hall.underway(1), (7, ["begin", "pick k from t"], [("t", {})]))
        rows = (("pick k from t", ("told", [(1,), (2,), (3,)]), "from t"),)
        self.assertEqual(hall.paper(5), (RECORDS, rows, (("t", {}),), ()))
        self.assertEqual(hall.shaped(0), ({"t": ("k", "a"), "u": ("m", "n")}, [("t", "a")]))


class Papers(unittest.TestCase):
    def test_a_paper_s_parts(self):
        hall = begun()
        ask(hall, "begin", "put t 9 10", "put t 9 9", "pick k from t where a = 10", "table v k", "set t a = a * 999999",
            "strike u where n > 10 and m = 6", "count from u where 1 = 2", "done")
        self.assertEqual(hall.paper(5), (
            RECORDS,
            (
                ("begin", ("told", 0), ""), ("put t 9 10", ("told", 1), ""), ("put t 9 9", ("refused", "Twice"), ""),
                ("pick k from t where a = 10", ("told", [(1,), (3,), (9,)]), "from t by a least 10 most 10"),
                ("table v k", ("refused", "Within"), ""), ("set t a = a * 999999", ("refused", "TooGreat"), "from t"),
                ("strike u where n > 10 and m = 6", ("told", 1), "from u least 6 most 6"),
                ("count from u where 1 = 2", ("told", 0), "not from u"), ("done", ("told", 0), ""),
            ),
            (("t", {"k": (9, 9)}), ("t", {"a": (10, 10)}), ("t", {}), ("u", {"n": (11, None), "m": (6, 6)})),
            (("row", "t", 9, (9, 10)), ("row", "u", 6, None)),
        ))
        self.assertIsNone(followed(hall.paper(5), hall.content(1, RECORDS)))

    def test_papers_of_all_tickets_follow(self):
        hall = begun()
        for ticket in range(hall.count_tickets()):
            paper = hall.paper(ticket)
            self.assertIsNone(followed(paper, hall.content(2, paper[0])))
        self.assertEqual(hall.paper(0), (1, (("table t k a", ("told", 0), ""),), (), (("table", "t", ("k", "a")),)))

    def test_content(self):
        hall = begun()
        tables = (("t", ("k", "a")), ("u", ("m", "n")))
        rows = (("t", ((1, 10), (2, 20), (3, 10))), ("u", ((5, 10), (6, 11))))
        expected = [((), (), ())] * 2 + [(tables[:1], (), ()), (tables[:1], (("t", "a"),), ())]
        expected += [(tables[:1], (("t", "a"),), rows[:1]), (tables, (("t", "a"),), rows[:1])]
        expected += [(tables, (("t", "a"),), rows)]
        for house in range(3):
            self.assertEqual([hall.content(house, number) for number in range(7)], expected)
            for number in (-1, 7, 100):
                with self.assertRaises(BadNumber):
                    hall.content(house, number)
        hall.checkpoint(1)
        hall.fall(1)
        self.assertEqual(hall.content(1, 6), expected[6])
        with self.assertRaises(BadNumber):
            hall.content(1, 5)


class Compared(unittest.TestCase):
    def test_questions_by_one_table(self):
        hall = begun()
        self.assertEqual(hall.compared(0, "pick k from t"), [("from t", 3, 3, 3)])
        self.assertEqual(hall.compared(1, "count from t where a = 10 and k >= 2"), [
            ("from t", 3, 3, 3), ("from t least 2", 1, 2, 2), ("from t by a least 10 most 10", 2, 2, 2),
        ])
        self.assertEqual(hall.compared(2, "sum a from t where 1 = 2"), [("not from t", 0, 0, 0)])
        told = hall.compared(0, "count from t where k = 99")
        self.assertEqual(told, [("from t", 3, 3, 3), ("from t least 99 most 99", 1, 0, 0)])

    def test_questions_by_two_tables(self):
        hall = begun()
        self.assertEqual(hall.compared(0, "pick k from t and u where a = n and k < 3"), [
            ("from t, from u", 9, 9, 6), ("from t most 2, from u", 3, 6, 4),
            ("from u, from t", 8, 8, 6), ("from u, from t most 2", 4, 6, 4), ("from u, from t by a first u.n", 4, 4, 2),
        ])

    def test_questions_by_three_tables(self):
        hall = begun()
        ask(hall, "table v k", "begin", "put v 1", "put v 2", "done")
        found = hall.compared(0, "count from t and u and v where v.k = t.k and t.k = u.m - 4")
        self.assertEqual(len(found), len(set(text for text, *_ in found)))
        self.assertEqual(found[0], ("from t, from u, from v", 3 + 6 + 12, 3 + 6 + 12, 12))
        self.assertIn(("from u, from t first u.m - 4, from v first t.k", 2 + 2 + 2, 2 + 2 + 2, 2), found)
        self.assertIn(("from t, from v first t.k, from u", 3 + 3 + 6, 3 + 2 + 4, 4), found)

    def test_all_plans_and_their_costs(self):
        hall = begun()
        for text in (
            "count from t and u where t.k = m or 1 = 1", "pick t.a from t and u where a = n and n = 10 and k = m - 4",
        ):
            tree = checked(read(text), *hall.shaped(0))
            plans = all_plans(tree[3], tree[4], *hall.shaped(0))
            told = hall.compared(0, text)
            expected = [(plan_text(plan), cost(plan, {"t": 3, "u": 2})) for plan in plans]
            self.assertEqual([row[:2] for row in told], expected)

    def test_another_statement_or_none(self):
        hall = begun()
        for text in ("put t 9 9", "set t a = 1", "strike t", "table v k", "index u n", "begin", "done", "undo"):
            with self.assertRaises(BadPlan):
                hall.compared(0, text)
        for text, refusal in (
            ("", BadText), ("count from v", BadName), ("pick k from t and t", BadName), ("put t 9", BadRow),
        ):
            with self.assertRaises(refusal):
                hall.compared(0, text)
        with self.assertRaises(BadName):
            Hall().compared(0, "count from t")

    def test_as_the_house_s_log_stands(self):
        hall = begun()
        hall.ask(0, "put t 4 4")
        self.assertEqual([hall.compared(house, "count from t")[0][3] for house in range(3)], [4, 3, 3])
        hall.fall(1)
        self.assertEqual(hall.compared(1, "count from t"), [("from t", 3, 3, 3)])


class Past(unittest.TestCase):
    def hall(self):
        hall = begun()
        ask(hall, "set t a = 30 where k = 2", "strike t where k = 2", "put t 2 5", "put u 2 2")
        return settle(hall)

    def test_records_that_wrote_a_key(self):
        hall = self.hall()
        self.assertEqual(hall.past(0, "t", 2), [(4, (2, 20)), (7, (2, 30)), (8, None), (9, (2, 5))])
        self.assertEqual((hall.past(0, "t", 1), hall.past(0, "u", 2)), ([(4, (1, 10))], [(10, (2, 2))]))
        self.assertEqual((hall.past(0, "t", 99), hall.past(0, "u", 1)), ([], []))

    def test_a_key_of_another_table(self):
        hall = begun()
        ask(hall, "put u 2 3")
        settle(hall)
        hall.checkpoint(0)
        self.assertEqual((hall.past(0, "t", 2), hall.past(0, "u", 2)), ([(7, (2, 20))], [(7, (2, 3))]))
        ask(hall, "put t 5 3")
        self.assertEqual((hall.past(0, "t", 5), hall.past(0, "u", 5)), ([(8, (5, 3))], [(7, (5, 10))]))

    def test_behind_pages(self):
        hall = begun()
        hall.checkpoint(0)
        self.assertEqual((hall.past(0, "t", 2), hall.past(0, "t", 7)), ([(6, (2, 20))], []))
        ask(hall, "set t a = 30 where k = 2", "strike t where k = 2")
        self.assertEqual(hall.past(0, "t", 2), [(6, (2, 20)), (7, (2, 30)), (8, None)])
        settle(hall)
        hall.checkpoint(0)
        self.assertEqual((hall.past(0, "t", 2), hall.past(0, "t", 3)), ([], [(8, (3, 10))]))
        self.assertEqual(hall.past(1, "t", 2), [(4, (2, 20)), (7, (2, 30)), (8, None)])

    def test_a_table_that_the_log_does_not_tell_of(self):
        hall = begun()
        hall.ask(0, "table v k")
        self.assertEqual(hall.past(0, "v", 1), [])
        for house, table in ((1, "v"), (0, "w")):
            with self.assertRaises(BadPlan):
                hall.past(house, table, 1)
        with self.assertRaises(BadPlan):
            Hall().past(0, "t", 1)


class Looks(unittest.TestCase):
    def test_shaped(self):
        hall = begun()
        self.assertEqual(Hall().shaped(1), ({}, []))
        hall.ask(0, "index u n")
        hall.ask(0, "table b x")
        self.assertEqual(hall.shaped(0), ({"t": ("k", "a"), "u": ("m", "n"), "b": ("x",)}, [("t", "a"), ("u", "n")]))
        self.assertEqual(hall.shaped(1), ({"t": ("k", "a"), "u": ("m", "n")}, [("t", "a")]))

    def test_underway(self):
        hall = begun()
        self.assertIsNone(hall.underway(0))
        hall.ask(0, "begin")
        self.assertEqual(hall.underway(0), (RECORDS, ["begin"], []))
        ask(hall, "count from t where a < 5", "nonsense", "put t 1 1")
        self.assertEqual(hall.underway(0), (RECORDS, ["begin", "count from t where a < 5", "nonsense", "put t 1 1"],
                                            [("t", {"a": (None, 4)}), ("t", {"k": (1, 1)})]))
        self.assertEqual(bounds(checked(read("count from t where a < 5"), hall.shaped(0)[0])[4], "t"), {"a": (None, 4)})
        self.assertIsNone(hall.underway(1))
        hall.ask(0, "undo")
        self.assertIsNone(hall.underway(0))

    def test_nothing_is_changed_by_these(self):
        hall = begun()
        ask(hall, "begin", "put t 9 9")
        before = self.state(hall)
        for _ in range(2):
            hall.compared(0, "count from t and u where a = n")
            hall.past(0, "t", 1), hall.shaped(0), hall.underway(0), hall.paper(2), hall.content(0, 3), hall.shown(3)
            for asked in (lambda: hall.compared(0, "begin"), lambda: hall.past(0, "w", 1), lambda: hall.content(0, 99)):
                self.assertRaises((BadPlan, BadNumber), asked)
        self.assertEqual(self.state(hall), before)
        hall.ask(1, "put t 8 8")
        self.assertEqual(hall.ask(0, "done"), ("waits", 6, 0))
        settle(hall)
        hall.checkpoint(0)
        self.assertEqual(hall.known(0)[1], RECORDS + 2)

    def state(self, hall):
        return (hall.letters(), hall.leaders(), hall.count_tickets(), hall.underway(0),
                [hall.known(house) for house in range(3)], [hall.log(house) for house in range(3)], hall.dealings(0))


if __name__ == "__main__":
    unittest.main()
