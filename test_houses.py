"""Houses, the letters between them, who leads, what is done, falls: promises 16 to 19."""

import unittest

from granary.askers import Asker, Draft
from granary.errors import BadNumber, StoreError
from granary.halls import Hall
from granary.houses import House
from granary.versions import Store
from posting import ask, come, led, lose, places, settle, take_over

LEADER = (-1, -1)


class Halls(unittest.TestCase):
    def test_how_many_houses_and_askers(self):
        for houses in range(1, 6):
            hall = Hall(houses=houses)
            self.assertEqual([hall.known(house) for house in range(houses)], [(0, 0, 0, 0)] * houses)
            with self.assertRaises(BadNumber):
                hall.known(houses)
        for askers in range(1, 10):
            hall = Hall(askers=askers)
            self.assertEqual([hall.house_of(asker) for asker in range(askers)], [0] * askers)
            with self.assertRaises(BadNumber):
                hall.house_of(askers)
        self.assertEqual(len(set(Hall().known(house) for house in range(3))), 1)
        self.assertEqual((Hall().house_of(3), Hall().known(2)), (0, (0, 0, 0, 0)))
        for ask_it in (Hall().known, Hall().house_of):
            with self.assertRaises(BadNumber):
                ask_it(3 if ask_it.__name__ == "known" else 4)

    def test_too_few_or_too_many(self):
        for houses in (0, 6, -1):
            with self.assertRaises(BadNumber) as caught:
                Hall(houses=houses)
            self.assertIsInstance(caught.exception, StoreError)
        for askers in (0, 10, -1):
            with self.assertRaises(BadNumber):
                Hall(askers=askers)

    def test_all_are_up_and_none_leads(self):
        hall = Hall()
        self.assertEqual((hall.letters(), hall.leaders(), hall.count_tickets()), ([], [], 0))
        for house in range(3):
            self.assertFalse(hall.rise(house))
            self.assertEqual(hall.log(house), [])

    def test_one_that_there_is_not(self):
        hall = led(2, 3)
        ask(hall, "table t k")
        asks = {
            "house": (hall.known, hall.shaped, hall.takeover, hall.beat, hall.checkpoint, hall.fall, hall.rise,
                      hall.log, lambda house: hall.content(house, 0), lambda house: hall.turn(0, house),
                      lambda house: hall.arm(house, 1), lambda house: hall.compared(house, "count from t"),
                      lambda house: hall.past(house, "t", 1), lambda house: hall.rise(house, cut=1)),
            "asker": (hall.house_of, hall.dealings, hall.underway, lambda asker: hall.ask(asker, "begin"),
                      lambda asker: hall.turn(asker, 0)),
            "ticket": (hall.found, hall.shown, hall.paper),
        }
        before = self.state(hall)
        for kind, many in (("house", 2), ("asker", 3), ("ticket", 1)):
            for ask_it in asks[kind]:
                for number in (many, many + 5, -1):
                    with self.assertRaises(BadNumber):
                        ask_it(number)
        self.assertEqual(self.state(hall), before)

    def state(self, hall):
        return (hall.letters(), hall.leaders(), [hall.known(house) for house in range(2)], hall.count_tickets(),
                [hall.log(house) for house in range(2)], [hall.house_of(asker) for asker in range(3)])

    def test_two_halls_are_apart(self):
        one, other = led(), Hall()
        self.assertEqual((one.leaders(), other.leaders(), other.letters()), ([0], [], []))


class Letters(unittest.TestCase):
    def test_places(self):
        hall = Hall(houses=4)
        self.assertIs(hall.come(), False)
        self.assertIs(hall.lose(), False)
        hall.takeover(1)
        self.assertEqual(hall.letters(), [("ask", 1, 0, 1), ("ask", 1, 2, 1), ("ask", 1, 3, 1)])
        for at in (3, 4, 99, -1, -3):
            self.assertIs(hall.come(at), False)
            self.assertIs(hall.lose(at), False)
        self.assertEqual(len(hall.letters()), 3)
        self.assertIs(hall.lose(1), True)
        self.assertEqual(hall.letters(), [("ask", 1, 0, 1), ("ask", 1, 3, 1)])
        self.assertIs(hall.come(at=1), True)
        self.assertEqual(hall.letters(), [("ask", 1, 0, 1), ("let", 3, 1, 1)])
        self.assertIs(hall.come(), True)
        self.assertEqual(hall.letters(), [("let", 3, 1, 1), ("let", 0, 1, 1)])
        self.assertIs(hall.lose(), True)
        self.assertEqual(hall.letters(), [("let", 0, 1, 1)])

    def test_a_lost_letter_does_nothing(self):
        hall = Hall()
        hall.takeover(0)
        lose(hall)
        self.assertEqual([hall.known(house)[0] for house in range(3)], [1, 0, 0])

    def test_each_kind(self):
        hall = Hall()
        hall.takeover(0)
        seen = []
        for _ in range(8):
            seen += hall.letters()
            hall.come()
        hall.takeover(1)
        lose(hall, to=2)
        lose(hall, "ask")
        hall.beat(0)
        come(hall, "send", to=1)
        seen += hall.letters()
        self.assertEqual({letter[0] for letter in seen}, {"ask", "let", "send", "have", "lack"})

    def test_for_a_house_that_is_not_up(self):
        hall = Hall()
        hall.takeover(0)
        hall.fall(1)
        self.assertIs(hall.come(), True)
        self.assertEqual(hall.letters(), [("ask", 0, 2, 1)])
        self.assertEqual(hall.known(1), (0, 0, 0, 0))
        hall.come()
        hall.fall(0)
        self.assertEqual(hall.letters(), [("let", 2, 0, 1)])
        self.assertIs(hall.come(), True)
        self.assertEqual((hall.letters(), hall.leaders()), ([], []))

    def test_what_is_told_may_be_changed(self):
        hall = Hall()
        hall.takeover(0)
        hall.letters().clear()
        self.assertEqual(len(hall.letters()), 2)


class Takeover(unittest.TestCase):
    def test_more_than_half(self):
        for houses, needed in ((1, 0), (2, 1), (3, 1), (4, 2), (5, 2)):
            hall = Hall(houses=houses)
            self.assertIs(hall.takeover(0), True)
            self.assertEqual(hall.letters(), [("ask", 0, to, 1) for to in range(1, houses)])
            come(hall, "ask")
            self.assertEqual(hall.letters(), [("let", sender, 0, 1) for sender in range(1, houses)])
            for at in range(needed):
                self.assertEqual(hall.leaders(), [])
                self.assertEqual(hall.log(0), [])
                hall.come(0)
            self.assertEqual(hall.leaders(), [0])
            self.assertEqual(hall.log(0), [(1, 1, -1, -1)])
            settle(hall)
            self.assertEqual(hall.leaders(), [0])
            self.assertEqual([hall.log(house) for house in range(houses)], [[(1, 1, -1, -1)]] * houses)

    def test_a_house_that_is_not_up(self):
        hall = Hall()
        hall.fall(0)
        self.assertIs(hall.takeover(0), False)
        self.assertEqual((hall.letters(), hall.known(0)), ([], (0, 0, 0, 0)))

    def test_a_term_more_than_its_own(self):
        hall = Hall()
        for term in (1, 2, 3):
            hall.takeover(2)
            self.assertEqual(hall.known(2)[0], term)
        self.assertEqual([letter[3] for letter in hall.letters()], [1, 1, 2, 2, 3, 3])
        hall.come(4)
        self.assertEqual((hall.known(0)[0], hall.letters()[-1]), (3, ("let", 0, 2, 3)))
        hall.takeover(1)
        self.assertEqual(hall.known(1)[0], 1)

    def test_an_ask_of_an_earlier_term_is_nothing(self):
        hall = Hall()
        hall.takeover(0)
        hall.takeover(0)
        come(hall, to=2)
        self.assertEqual(hall.letters()[-1], ("let", 2, 0, 2))
        hall.takeover(1)
        hall.takeover(1)
        hall.takeover(1)
        lose(hall, "ask", 1, 2)
        come(hall, "ask", 0, 1)
        self.assertEqual(places(hall, "let", 1), [])
        self.assertEqual(hall.known(1)[0], 3)

    def test_one_leads_no_more_that_asks_in_a_later_term(self):
        hall = led()
        hall.takeover(0)
        self.assertEqual((hall.leaders(), hall.known(0)[0]), ([], 2))
        settle(hall)
        self.assertEqual(hall.leaders(), [0])
        self.assertEqual(hall.log(0), [(1, 1, *LEADER), (2, 2, *LEADER)])

    def test_nobody_is_let_twice_in_a_term(self):
        hall = Hall(houses=5)
        hall.takeover(0)
        hall.takeover(1)
        come(hall, "ask", 0)
        self.assertEqual([letter for letter in hall.letters() if letter[0] == "let"],
                         [("let", sender, 0, 1) for sender in (2, 3, 4)])
        come(hall, "ask", 1)
        self.assertEqual(places(hall, to=1), [])
        settle(hall)
        self.assertEqual(hall.leaders(), [0])

    def test_split_votes(self):
        hall = Hall(houses=4)
        hall.takeover(0)
        hall.takeover(1)
        come(hall, "ask", 0, 2)
        come(hall, "ask", 1, 3)
        come(hall, "ask")
        self.assertEqual(sorted(hall.letters()), [("let", 2, 0, 1), ("let", 3, 1, 1)])
        settle(hall)
        self.assertEqual(hall.leaders(), [])
        hall.takeover(1)
        settle(hall)
        self.assertEqual((hall.leaders(), hall.known(1)[0]), ([1], 2))

    def test_nobody_is_let_again_behind_a_rise(self):
        hall = Hall()
        hall.takeover(0)
        come(hall, to=2)
        lose(hall)
        hall.fall(2)
        hall.rise(2)
        self.assertEqual(hall.known(2)[0], 1)
        hall.takeover(1)
        come(hall, to=2)
        self.assertEqual(places(hall, "let"), [])

    def test_the_same_one_is_let_again(self):
        """It asks once in a term, so only its own records tell: who let it let nobody else."""
        hall = Hall()
        hall.takeover(0)
        come(hall, "ask", 0, 1)
        hall.takeover(2)
        come(hall, "ask", 2, 1)
        self.assertEqual(places(hall, "let", 1, 2), [])
        self.assertEqual(places(hall, "let", 1, 0), [1])

    def test_a_let_of_an_earlier_term_is_nothing(self):
        hall = Hall()
        hall.takeover(0)
        come(hall, "ask")
        hall.takeover(0)
        come(hall, "let")
        self.assertEqual((hall.leaders(), hall.known(0)), ([], (2, 0, 0, 0)))

    def test_a_later_term_lets_a_house_go_over(self):
        hall = led()
        hall.takeover(2)
        come(hall, "ask", 2, 0)
        self.assertEqual((hall.leaders(), hall.known(0)[0], hall.known(1)[0]), ([], 2, 1))
        self.assertEqual(hall.letters()[-1], ("let", 0, 2, 2))

    def test_one_that_lacks_records_is_not_let(self):
        hall = led()
        ask(hall, "table t k")
        come(hall, to=1)
        lose(hall)
        hall.takeover(2)
        come(hall, "ask")
        self.assertEqual((hall.letters(), hall.leaders()), ([], []))
        self.assertEqual([hall.known(house)[0] for house in range(3)], [2, 2, 2])
        hall.takeover(1)
        come(hall, "ask")
        self.assertEqual(hall.letters(), [("let", 0, 1, 3), ("let", 2, 1, 3)])
        come(hall)
        self.assertEqual(hall.leaders(), [1])

    def test_a_later_last_record_s_term_counts_more_than_how_many_there_are(self):
        hall = led()
        ask(hall, "table t k", "put t 1", "put t 2")
        lose(hall)
        take_over(hall, 1)
        lose(hall, "send", 1, 0)
        settle(hall)
        self.assertEqual([hall.known(house)[2] for house in range(3)], [4, 2, 2])
        hall.takeover(0)
        hall.takeover(0)
        settle(hall)
        self.assertEqual(hall.leaders(), [])
        hall.takeover(2)
        hall.takeover(2)
        settle(hall)
        self.assertEqual(hall.leaders(), [2])
        self.assertEqual(hall.log(0), [(1, 1, *LEADER), (2, 2, *LEADER), (6, 3, *LEADER)])


class Sending(unittest.TestCase):
    def test_what_a_leader_sends_when_it_appended(self):
        hall = led()
        self.assertEqual(ask(hall, "table t k"), ("waits", 0, 0))
        self.assertEqual(hall.letters(), [("send", 0, 1, 1), ("send", 0, 2, 1)])
        come(hall)
        self.assertEqual(hall.letters(), [("have", 1, 0, 1), ("have", 2, 0, 1)])
        self.assertEqual([hall.log(house) for house in range(3)], [[(1, 1, -1, -1), (1, 2, 0, 0)]] * 3)
        come(hall)
        self.assertEqual((hall.letters(), hall.known(0)), ([], (1, 0, 2, 2)))

    def test_beat(self):
        hall = led()
        self.assertEqual([hall.beat(house) for house in range(3)], [True, False, False])
        self.assertEqual(hall.letters(), [("send", 0, 1, 1), ("send", 0, 2, 1)])
        settle(hall)
        self.assertEqual([hall.known(house) for house in range(3)], [(1, 0, 1, 1)] * 3)
        hall.fall(0)
        self.assertIs(hall.beat(0), False)
        self.assertEqual(hall.letters(), [])

    def test_all_from_where_another_is_taken_to_lack_them(self):
        hall = led()
        ask(hall, "table t k", "put t 1", "put t 2")
        lose(hall)
        hall.beat(0)
        come(hall, to=1)
        self.assertEqual((hall.known(1)[2], hall.known(2)[2]), (4, 1))
        come(hall, "have")
        hall.beat(0)
        come(hall, to=2)
        self.assertEqual(hall.log(2), hall.log(0))

    def test_letters_twice_over_late_and_out_of_turn(self):
        hall = led()
        ask(hall, "table t k", "put t 1", "put t 2")
        hall.beat(0)
        hall.come(6)
        self.assertEqual(hall.known(1)[2], 4)
        for at in (4, 2, 0, 0):
            hall.come(at)
        self.assertEqual(hall.known(1)[2], 4)
        self.assertEqual(hall.log(1), hall.log(0))
        for _ in range(20):
            hall.come(len(hall.letters()) - 1)
        self.assertEqual([hall.log(house) for house in range(3)], [hall.log(0)] * 3)
        self.assertEqual(hall.known(0), (1, 0, 4, 4))

    def test_one_that_lacks_what_is_ahead(self):
        """A new leader takes others to lack its first record; one that lacks more says so."""
        hall = led()
        ask(hall, "table t k", "put t 1", "put t 2")
        lose(hall, to=2)
        settle(hall)
        take_over(hall, 1)
        self.assertEqual(hall.known(2), (2, 0, 1, 0))
        lose(hall, "send", 1, 0)
        come(hall, "send", 1, 2)
        self.assertEqual(hall.letters(), [("lack", 2, 1, 2)])
        come(hall)
        self.assertEqual(hall.letters(), [("send", 1, 2, 2)])
        come(hall)
        self.assertEqual((hall.log(2), hall.letters()), (hall.log(1), [("have", 2, 1, 2)]))
        self.assertEqual(hall.log(2), [(1, 1, -1, -1), (1, 2, 0, 0), (1, 3, 0, 1), (1, 4, 0, 2), (2, 5, -1, -1)])

    def test_one_that_has_none_at_all(self):
        hall = Hall(houses=3)
        hall.fall(2)
        hall.takeover(0)
        settle(hall)
        hall.takeover(0)
        settle(hall)
        ask(hall, "table t k")
        settle(hall)
        hall.rise(2)
        hall.takeover(1)
        come(hall, "ask")
        come(hall, "let")
        come(hall, "send", to=2)
        self.assertEqual(places(hall, "lack"), [1])
        settle(hall)
        self.assertEqual(hall.log(2), [(1, 1, *LEADER), (2, 2, *LEADER), (2, 3, 0, 0), (3, 4, *LEADER)])

    def otherwise(self):
        """House 0 has records 2 to 6 of term 1 alone; house 2 leads in term 3, its 2 to 4 are of term 2."""
        hall = led()
        ask(hall, "table t k", "put t 1", "put t 2", "put t 3", "put t 4")
        lose(hall)
        take_over(hall, 1)
        hall.turn(0, 1)
        ask(hall, "table u k", "put u 1")
        lose(hall, to=0)
        settle(hall)
        self.assertEqual([hall.known(house)[2] for house in range(3)], [6, 4, 4])
        hall.takeover(2)
        lose(hall)
        return hall

    def test_records_that_are_otherwise_go_with_all_behind_them(self):
        hall = self.otherwise()
        hall.takeover(2)
        lose(hall, to=0)
        come(hall, "ask")
        come(hall, "let")
        self.assertEqual((hall.leaders(), hall.known(2)[:3]), ([2], (4, 0, 5)))
        lose(hall, to=1)
        backs = 0
        for _ in range(3):
            self.assertEqual(hall.letters(), [("send", 2, 0, 4)])
            come(hall)
            self.assertEqual((hall.letters(), hall.known(0)[2]), ([("lack", 0, 2, 4)], 6))
            come(hall)
            backs += 1
        self.assertEqual(backs, 3)
        come(hall)
        self.assertEqual(hall.letters(), [("have", 0, 2, 4)])
        expected = [(1, 1, *LEADER), (2, 2, *LEADER), (2, 3, 0, 5), (2, 4, 0, 6), (4, 5, *LEADER)]
        self.assertEqual([hall.log(0), hall.log(2)], [expected] * 2)
        come(hall)
        self.assertEqual(hall.known(2), (4, 0, 5, 5))
        self.assertEqual([hall.found(ticket) for ticket in range(7)], ["gone"] * 4 + ["unknown", "done", "done"])

    def test_down_to_the_first_record(self):
        """All records of one house are otherwise, the first too."""
        hall = Hall(houses=3)
        take_over(hall, 0)
        lose(hall)
        ask(hall, "table t k", "put t 1")
        lose(hall)
        take_over(hall, 1)
        hall.turn(0, 1)
        ask(hall, "table u k", "put u 1")
        lose(hall, to=0)
        settle(hall)
        self.assertEqual(hall.log(1), [(2, 1, *LEADER), (2, 2, 0, 2), (2, 3, 0, 3)])
        take_over(hall, 1)
        lose(hall, to=0)
        settle(hall)
        self.assertEqual((hall.leaders(), hall.known(1)[2]), ([1], 4))
        self.assertEqual(hall.log(0), [(1, 1, *LEADER), (1, 2, 0, 0), (1, 3, 0, 1)])
        hall.beat(1)
        lose(hall, to=2)
        for _ in range(3):
            come(hall, "send", 1, 0)
            self.assertEqual(hall.letters(), [("lack", 0, 1, 3)])
            come(hall, "lack")
        come(hall, "send", 1, 0)
        self.assertEqual((hall.letters(), hall.log(0)), ([("have", 0, 1, 3)], hall.log(1)))

    def test_lack_that_comes_twice_over(self):
        """It goes back by one more each time, not below the first record; pages come where the log begins behind."""
        for base in (0, 1):
            hall = led()
            hall.beat(0)
            settle(hall)
            if base:
                hall.checkpoint(1)
            ask(hall, "table t k", "put t 1")
            lose(hall, to=2)
            settle(hall)
            take_over(hall, 1)
            for _ in range(3):
                hall.beat(1)
            lose(hall, to=0)
            come(hall, "send", 1, 2)
            lose(hall, to=0)
            self.assertEqual(hall.letters(), [("lack", 2, 1, 2)] * 4)
            told = []
            while places(hall, "lack"):
                hall.come(places(hall, "lack")[0])
                told.append(hall.letters()[-1][0])
            self.assertEqual(told, ["send", "whole", "whole", "whole"] if base else ["send"] * 4)
            settle(hall)
            self.assertEqual(hall.log(2)[-1], (2, 4, *LEADER))

    def test_records_that_are_the_same_stay(self):
        hall = led()
        ask(hall, "table t k")
        hall.beat(0)
        ask(hall, "put t 1")
        come(hall, to=1)
        self.assertEqual(hall.known(1)[2], 3)
        hall.takeover(1)
        settle(hall)
        self.assertEqual(hall.log(1), [(1, 1, *LEADER), (1, 2, 0, 0), (1, 3, 0, 1), (2, 4, *LEADER)])

    def test_a_send_of_an_earlier_term(self):
        hall = led()
        ask(hall, "table t k")
        hall.takeover(1)
        lose(hall, "ask")
        come(hall, "send", 0, 1)
        self.assertEqual(hall.letters()[-1], ("lack", 1, 0, 2))
        self.assertEqual((hall.known(1), hall.leaders()), ((2, 0, 1, 0), [0]))
        come(hall, "lack")
        self.assertEqual((hall.known(0)[0], hall.leaders()), (2, []))
        self.assertEqual(hall.letters(), [("send", 0, 2, 1)])

    def test_have_and_lack_of_an_earlier_term_are_nothing(self):
        hall = led()
        ask(hall, "table t k")
        come(hall, "send")
        self.assertEqual(len(places(hall, "have")), 2)
        hall.takeover(0)
        lose(hall, "ask")
        come(hall, "have")
        self.assertEqual(hall.known(0), (2, 0, 2, 1))
        other = led()
        ask(other, "table t k", "put t 1")
        lose(other, to=2)
        settle(other)
        take_over(other, 1)
        come(other, "send", 1, 2)
        lose(other, "send")
        self.assertEqual(other.letters(), [("lack", 2, 1, 2)])
        other.takeover(1)
        lose(other, "ask")
        come(other, "lack")
        self.assertEqual(other.letters(), [])

    def test_who_asked_too_takes_another_s_records(self):
        hall = Hall()
        hall.takeover(0)
        hall.takeover(1)
        come(hall, "ask", 0, 2)
        come(hall, "let", 2, 0)
        self.assertEqual((hall.leaders(), hall.known(1)[0]), ([0], 1))
        come(hall, "send", 0, 1)
        self.assertEqual(hall.log(1), [(1, 1, *LEADER)])
        settle(hall)
        self.assertEqual(hall.leaders(), [0])


class Pages(unittest.TestCase):
    def test_pages_where_the_log_begins_behind(self):
        hall = led()
        ask(hall, "table t k", "put t 1", "put t 2")
        lose(hall, to=2)
        settle(hall)
        self.assertIs(hall.checkpoint(0), True)
        self.assertEqual((hall.known(0), hall.log(0)), ((1, 4, 4, 4), []))
        hall.beat(0)
        self.assertEqual([letter for letter in hall.letters() if letter[2] == 2], [("whole", 0, 2, 1)])
        lose(hall, to=1)
        come(hall)
        self.assertEqual((hall.known(2), hall.log(2)), ((1, 4, 4, 4), []))
        self.assertEqual(hall.letters(), [("have", 2, 0, 1)])
        self.assertEqual(hall.content(2, 4), hall.content(0, 4))
        come(hall)
        ask(hall, "put t 3")
        self.assertEqual([letter[0] for letter in hall.letters()], ["send", "send"])
        settle(hall)
        self.assertEqual(hall.log(2), [(1, 5, 0, 3)])

    def test_one_behind_the_pages_is_sent_records(self):
        hall = led()
        ask(hall, "table t k")
        settle(hall)
        hall.checkpoint(0)
        ask(hall, "put t 1")
        self.assertEqual([letter[0] for letter in hall.letters()], ["send", "send"])
        settle(hall)
        self.assertEqual(hall.log(1), [(1, 1, *LEADER), (1, 2, 0, 0), (1, 3, 0, 1)])

    def longer(self):
        """House 2 has records 2 to 6 of term 1 alone; house 0 has pages of 3, of term 2, and leads."""
        hall = led(leader=2)
        ask(hall, "table t k", "put t 1", "put t 2", "put t 3", "put t 4")
        lose(hall)
        take_over(hall, 0)
        hall.turn(0, 0)
        ask(hall, "table u k")
        lose(hall, to=2)
        settle(hall)
        self.assertEqual(hall.known(0), (2, 0, 3, 3))
        hall.checkpoint(0)
        return hall

    def test_pages_over_a_longer_log_of_an_elder_term(self):
        hall = self.longer()
        self.assertEqual(hall.known(2), (2, 0, 6, 1))
        hall.takeover(0)
        come(hall, "ask")
        come(hall, "let")
        self.assertEqual(hall.known(0), (3, 3, 4, 3))
        lose(hall, to=1)
        come(hall, "send", 0, 2)
        self.assertEqual(hall.letters(), [("lack", 2, 0, 3)])
        come(hall)
        self.assertEqual(hall.letters(), [("whole", 0, 2, 3)])
        come(hall)
        self.assertEqual((hall.known(2), hall.log(2), hall.letters()), ((3, 3, 3, 3), [], [("have", 2, 0, 3)]))
        come(hall)
        hall.beat(0)
        settle(hall)
        self.assertEqual(hall.log(2), [(3, 4, *LEADER)])
        found = [hall.found(ticket) for ticket in range(6)]
        self.assertEqual(found, ["gone", "gone", "gone", "unknown", "unknown", "done"])

    def test_pages_of_a_record_that_it_has_are_not_taken(self):
        hall = led()
        ask(hall, "table t k", "put t 1")
        come(hall, "send")
        lose(hall, "have", 2)
        settle(hall)
        hall.checkpoint(0)
        hall.beat(0)
        lose(hall, to=1)
        self.assertEqual((hall.known(2), hall.letters()), ((1, 0, 3, 1), [("whole", 0, 2, 1)]))
        hall.come()
        self.assertEqual((hall.known(2), hall.letters()), ((1, 0, 3, 3), [("have", 2, 0, 1)]))
        self.assertEqual(hall.log(2), [(1, 1, *LEADER), (1, 2, 0, 0), (1, 3, 0, 1)])

    def test_pages_that_come_to_one_of_a_later_term(self):
        hall = led()
        ask(hall, "table t k", "put t 1")
        lose(hall, to=2)
        settle(hall)
        hall.checkpoint(0)
        hall.beat(0)
        hall.takeover(2)
        lose(hall, "ask")
        come(hall, "whole")
        self.assertEqual((hall.known(2), hall.letters()[-1]), ((2, 0, 1, 0), ("lack", 2, 0, 2)))

    def test_a_whole_that_comes_late_is_not_taken_but_told(self):
        """Its record is there meanwhile, or pages behind it: have is its number, and what it tells done is known."""
        hall = led()
        ask(hall, "table t k", "put t 1")
        lose(hall, to=2)
        settle(hall)
        hall.checkpoint(0)
        hall.beat(0)
        hall.beat(0)
        self.assertEqual(len(places(hall, "whole", 0, 2)), 2)
        lose(hall, to=1)
        hall.come()
        self.assertEqual(hall.known(2), (1, 3, 3, 3))
        come(hall, "have")
        ask(hall, "put t 2")
        lose(hall, to=1)
        come(hall, "send")
        self.assertEqual((hall.known(2), hall.log(2)), ((1, 3, 4, 3), [(1, 4, 0, 2)]))
        hall.come()
        self.assertEqual((hall.known(2), hall.log(2)), ((1, 3, 4, 3), [(1, 4, 0, 2)]))
        self.assertEqual(hall.letters(), [("have", 2, 0, 1)] * 2)

    def test_letters_that_come_late_to_one_that_has_later_pages(self):
        hall = led()
        ask(hall, "table t k", "put t 1")
        lose(hall, to=2)
        settle(hall)
        hall.checkpoint(0)
        hall.beat(0)
        hall.beat(0)
        lose(hall, to=1)
        hall.come()
        come(hall, "have")
        ask(hall, "put t 2", "put t 3")
        come(hall, "send", to=1)
        come(hall, "have", 1)
        hall.beat(0)
        lose(hall, "send", to=1)
        for _ in range(2):
            hall.come(places(hall, "send", to=2)[-1])
        self.assertEqual(hall.known(2), (1, 3, 5, 5))
        hall.checkpoint(2)
        self.assertEqual((hall.known(2), hall.log(2)), ((1, 5, 5, 5), []))
        lose(hall, "have")
        self.assertEqual(hall.letters(), [("whole", 0, 2, 1), ("send", 0, 2, 1)])
        come(hall)
        self.assertEqual((hall.known(2), hall.log(2)), ((1, 5, 5, 5), []))
        self.assertEqual(hall.letters(), [("have", 2, 0, 1)] * 2)

    def test_what_lies_in_its_own_pages_is_not_taken_again(self):
        hall = led()
        ask(hall, "table t k", "put t 1", "put t 2")
        come(hall, to=1)
        come(hall, "have")
        hall.beat(0)
        lose(hall, "send", 0, 2)
        settle(hall)
        hall.checkpoint(1)
        self.assertEqual((hall.known(1), hall.log(1)), ((1, 4, 4, 4), []))
        hall.takeover(1)
        come(hall, "ask", 1, 0)
        lose(hall, "ask")
        lose(hall, "let")
        hall.takeover(0)
        come(hall, "ask", 0, 1)
        come(hall, "let", 1, 0)
        self.assertEqual(hall.leaders(), [0])
        settle(hall)
        self.assertEqual((hall.known(1)[:3], hall.log(1)), ((3, 4, 5), [(3, 5, *LEADER)]))
        self.assertEqual(hall.log(2), hall.log(0))


class Done(unittest.TestCase):
    def test_when_more_than_half_have_it(self):
        for houses, needed in ((1, 0), (2, 1), (3, 1), (4, 2), (5, 2)):
            hall = led(houses)
            ask(hall, "table t k")
            come(hall, "send")
            for many in range(houses):
                self.assertEqual(hall.found(0), "done" if many >= needed else "unknown", (houses, many))
                self.assertEqual(hall.known(0)[3], 2 if many >= needed else 1)
                hall.come()

    def test_all_ahead_of_it_too(self):
        hall = led()
        ask(hall, "table t k", "put t 1", "put t 2")
        hall.come(4)
        self.assertEqual([hall.found(ticket) for ticket in range(3)], ["unknown"] * 3)
        come(hall, "have")
        self.assertEqual([hall.found(ticket) for ticket in range(3)], ["done"] * 3)

    def test_a_record_of_an_elder_term_alone_is_not(self):
        """More than half have the elder record, but not the leader's own one: power went ahead of this."""
        hall = led()
        ask(hall, "table t k")
        lose(hall)
        hall.takeover(0)
        come(hall, "ask")
        lose(hall, to=2)
        hall.arm(1, 3)
        come(hall, "let")
        self.assertEqual(hall.leaders(), [0])
        lose(hall, to=2)
        come(hall, "send", to=1)
        come(hall, "lack")
        come(hall, "send", to=1)
        self.assertEqual(hall.known(1)[2:], (2, 0))
        hall.rise(1)
        self.assertEqual(hall.log(1), [(1, 1, *LEADER), (1, 2, 0, 0)])
        self.assertEqual((hall.found(0), hall.known(0)[3]), ("unknown", 1))
        hall.beat(0)
        lose(hall, to=2)
        settle(hall)
        self.assertEqual((hall.found(0), hall.known(0)[3]), ("done", 3))

    def test_one_that_leads_no_more_finds_nothing_done(self):
        hall = led()
        ask(hall, "table t k")
        come(hall, "send", to=1)
        hall.fall(0)
        hall.rise(0)
        come(hall, "have")
        self.assertEqual((hall.known(0), hall.found(0)), ((1, 0, 2, 0), "unknown"))
        other = led()
        ask(other, "table t k", "put t 1")
        lose(other, to=2)
        settle(other)
        take_over(other, 1)
        come(other, "send", to=2)
        other.fall(1)
        other.rise(1)
        lose(other, "send")
        come(other, "lack")
        self.assertEqual(other.letters(), [])

    def test_others_learn_it_with_the_next_send(self):
        hall = led()
        ask(hall, "table t k")
        settle(hall)
        self.assertEqual([hall.known(house)[3] for house in range(3)], [2, 1, 1])
        hall.beat(0)
        hall.come()
        self.assertEqual([hall.known(house)[3] for house in range(3)], [2, 2, 1])
        settle(hall)
        self.assertEqual([hall.known(house)[3] for house in range(3)], [2, 2, 2])

    def test_one_that_lacks_what_is_ahead_does_not_learn_it(self):
        hall = led()
        ask(hall, "table t k", "put t 1")
        lose(hall, to=2)
        settle(hall)
        hall.takeover(1)
        come(hall, "ask")
        come(hall, "let")
        come(hall, "send", 1, 2)
        self.assertEqual(hall.known(2), (2, 0, 1, 0))

    def test_checkpoint(self):
        hall = led()
        ask(hall, "table t k", "put t 1")
        come(hall, "send")
        come(hall)
        hall.beat(0)
        hall.come()
        lose(hall)
        self.assertEqual([hall.known(house) for house in range(3)], [(1, 0, 3, 3), (1, 0, 3, 3), (1, 0, 3, 1)])
        self.assertEqual([hall.checkpoint(house) for house in range(3)], [True] * 3)
        self.assertEqual([hall.known(house) for house in range(3)], [(1, 3, 3, 3), (1, 3, 3, 3), (1, 1, 3, 1)])
        self.assertEqual([hall.log(house) for house in range(3)], [[], [], [(1, 2, 0, 0), (1, 3, 0, 1)]])
        hall.fall(1)
        self.assertIs(hall.checkpoint(1), False)
        self.assertIs(hall.checkpoint(0), True)
        self.assertEqual(hall.known(0), (1, 3, 3, 3))

    def test_leaders(self):
        hall = led(5)
        hall.takeover(4)
        come(hall, "ask", 4, 1)
        come(hall, "ask", 4, 2)
        come(hall, "let")
        self.assertEqual(hall.leaders(), [0, 4])
        hall.fall(0)
        self.assertEqual(hall.leaders(), [4])
        hall.rise(0)
        self.assertEqual(hall.leaders(), [4])
        hall.leaders().clear()
        self.assertEqual(hall.leaders(), [4])


class Falls(unittest.TestCase):
    def test_fall_and_rise(self):
        hall = led()
        ask(hall, "table t k")
        settle(hall)
        self.assertIs(hall.fall(0), True)
        self.assertIs(hall.fall(0), False)
        self.assertEqual((hall.known(0), hall.log(0)), ((1, 0, 2, 2), [(1, 1, *LEADER), (1, 2, 0, 0)]))
        self.assertEqual(hall.leaders(), [])
        self.assertIs(hall.rise(0), True)
        self.assertIs(hall.rise(0), False)
        self.assertEqual((hall.known(0), hall.log(0)), ((1, 0, 2, 0), [(1, 1, *LEADER), (1, 2, 0, 0)]))
        self.assertEqual(hall.leaders(), [])

    def test_it_knows_to_be_done_up_to_its_pages(self):
        hall = led()
        ask(hall, "table t k")
        settle(hall)
        hall.checkpoint(0)
        ask(hall, "put t 1")
        settle(hall)
        self.assertEqual(hall.known(0), (1, 2, 3, 3))
        hall.fall(0)
        hall.rise(0, cut=4)
        self.assertEqual((hall.known(0), hall.log(0)), ((1, 2, 3, 2), [(1, 3, 0, 1)]))

    def test_a_wrong_cut(self):
        hall = led()
        hall.fall(1)
        before = hall.known(1)
        with self.assertRaises(BadNumber):
            hall.rise(1, cut=-1)
        self.assertEqual(hall.known(1), before)
        self.assertIs(hall.takeover(1), False)
        self.assertIs(hall.rise(1, cut=0), True)

    def test_a_wrong_arm(self):
        hall = led()
        with self.assertRaises(BadNumber):
            hall.arm(0, -1)
        hall.takeover(0)
        self.assertEqual(hall.known(0)[0], 2)

    def test_arm_amid_takeover(self):
        for many, cut, term in ((0, 0, 0), (0, 1, 0), (1, 0, 0), (1, 1, 1), (1, 5, 1)):
            hall = Hall()
            self.assertIsNone(hall.arm(0, many))
            self.assertIs(hall.takeover(0), True)
            self.assertEqual((hall.letters(), hall.known(0)), ([], (0, 0, 0, 0)))
            self.assertIs(hall.takeover(0), False)
            hall.rise(0, cut=cut)
            self.assertEqual(hall.known(0)[0], term)
            hall.takeover(0)
            self.assertEqual(hall.letters()[0], ("ask", 0, 1, term + 1))
        hall = Hall()
        hall.arm(0, 2)
        hall.takeover(0)
        self.assertEqual(len(hall.letters()), 2)
        self.assertIs(hall.fall(0), True)

    def test_arm_amid_the_first_record_of_a_leader(self):
        for many, cut, last in ((2, 1, 0), (3, 0, 0), (3, 1, 1)):
            hall = Hall()
            hall.arm(0, many)
            hall.takeover(0)
            come(hall, "ask")
            self.assertIs(hall.come(), True)
            self.assertEqual((hall.leaders(), hall.known(0)), ([], (1, 0, 0, 0)))
            self.assertEqual(hall.letters(), [("let", 2, 0, 1)])
            hall.rise(0, cut=cut)
            self.assertEqual(hall.known(0), (1, 0, last, 0))

    def test_arm_amid_come(self):
        for many, cut, last in ((0, 0, 1), (1, 0, 1), (1, 1, 2), (2, 0, 2)):
            hall = led()
            hall.beat(0)
            settle(hall)
            ask(hall, "table t k", "put t 1")
            hall.beat(0)
            lose(hall, to=2)
            come(hall, "have")
            hall.lose(0)
            hall.lose(0)
            hall.arm(1, many)
            self.assertIs(hall.come(), True)
            self.assertIs(hall.beat(1), False)
            self.assertEqual(hall.letters(), [])
            self.assertEqual(hall.known(1)[2], 2 if many == 2 else 1)
            hall.rise(1, cut=cut)
            self.assertEqual(hall.known(1)[:3], (1, 0, last))
            hall.beat(0)
            settle(hall)
            self.assertEqual(hall.log(1), hall.log(0))

    def test_arm_amid_a_vote(self):
        for many, cut in ((0, 0), (1, 0), (1, 1)):
            hall = Hall()
            hall.arm(1, many)
            hall.takeover(0)
            hall.come()
            self.assertEqual(hall.letters(), [("ask", 0, 2, 1)])
            self.assertIs(hall.rise(1, cut=cut), True)
            self.assertEqual(hall.known(1)[0], cut)

    def test_arm_amid_checkpoint(self):
        for many in range(4):
            for cut in range(4):
                hall = led()
                ask(hall, "table t k", "begin", "put t 1", "put t 2", "done")
                settle(hall)
                before = hall.known(0)
                content = hall.content(0, 3)
                hall.arm(0, many)
                self.assertIs(hall.checkpoint(0), True)
                self.assertEqual((hall.leaders(), hall.known(0)), ([0], (1, 3, 3, 3)) if many == 3 else ([], before))
                if many < 3:
                    hall.rise(0, cut=cut)
                self.assertEqual(hall.known(0)[1], 3 if many == 3 or cut >= 2 == many else 0)
                self.assertEqual(hall.content(0, 3), content)

    def test_arm_is_over_with_a_rise(self):
        hall = led()
        hall.arm(1, 0)
        hall.fall(1)
        hall.rise(1)
        hall.takeover(1)
        self.assertEqual(hall.known(1)[0], 2)

    def test_arm_of_a_house_that_is_not_up(self):
        hall = led()
        hall.fall(1)
        self.assertIsNone(hall.arm(1, 0))
        hall.rise(1)
        hall.takeover(1)
        self.assertEqual(hall.known(1)[0], 2)

    def test_one_that_rose_may_lead_again(self):
        hall = led()
        ask(hall, "table t k", "put t 1")
        settle(hall)
        hall.fall(0)
        take_over(hall, 1)
        settle(hall)
        hall.rise(0)
        self.assertEqual(hall.known(0)[0], 1)
        hall.takeover(0)
        settle(hall)
        self.assertEqual(hall.leaders(), [1])
        hall.beat(1)
        settle(hall)
        self.assertEqual(hall.log(0), hall.log(1))
        hall.takeover(0)
        settle(hall)
        self.assertEqual((hall.leaders(), hall.known(0)), ([0], (3, 0, 5, 5)))

    def risen(self, houses, lets):
        """House 1 asked, was let by so many, fell and rose; all else that lets it is under way."""
        hall = Hall(houses=houses)
        hall.takeover(1)
        come(hall, "ask")
        for _ in range(lets):
            hall.come()
        lose(hall, "send")
        hall.fall(1)
        hall.rise(1)
        self.assertEqual(hall.letters(), [("let", at, 1, 1) for at in range(houses) if at != 1][lets:])
        return hall

    def test_lets_that_come_behind_a_rise(self):
        """Whether it led ahead of its fall or not, and however many come: it leads not, its log is as it was."""
        for houses in range(2, 6):
            for lets in range(houses):
                hall = self.risen(houses, lets)
                log = [(1, 1, *LEADER)] if lets >= houses // 2 else []
                for left in range(houses - lets):
                    self.assertEqual((hall.leaders(), hall.log(1)), ([], log), (houses, lets))
                    self.assertEqual(hall.known(1), (1, 0, len(log), 0))
                    self.assertIs(hall.beat(1), False)
                    self.assertEqual(len(hall.letters()), houses - lets - left - 1)
                    hall.come()

    def test_it_leads_behind_a_rise_when_it_asks_anew(self):
        for houses in range(2, 6):
            for lets in range(houses):
                hall = self.risen(houses, lets)
                log = hall.log(1)
                self.assertIs(hall.takeover(1), True)
                settle(hall)
                self.assertEqual((hall.leaders(), hall.log(1)), ([1], log + [(2, len(log) + 1, *LEADER)]))
                self.assertEqual([hall.log(house) for house in range(houses)], [hall.log(1)] * houses)

    def test_a_late_let_is_not_counted_among_those_asked_for_anew(self):
        hall = self.risen(5, 0)
        hall.takeover(1)
        come(hall, "let", 0)
        come(hall, "let", 2)
        self.assertEqual((hall.leaders(), hall.known(1)), ([], (2, 0, 0, 0)))

    def test_a_house_alone_leads_not_behind_a_rise(self):
        hall = led(1)
        ask(hall, "table t k")
        hall.fall(0)
        hall.rise(0)
        hall.beat(0)
        self.assertEqual((hall.leaders(), hall.log(0)), ([], [(1, 1, *LEADER), (1, 2, 0, 0)]))
        self.assertEqual((hall.ask(0, "begin"), hall.known(0)), (("away",), (1, 0, 2, 0)))
        hall.takeover(0)
        self.assertEqual((hall.leaders(), hall.known(0)), ([0], (2, 0, 3, 3)))

    def test_lets_behind_a_rise_of_one_whose_power_went_amid_asking(self):
        """Its disk tells that it lets itself, but no ask went under way; elder lets come."""
        hall = Hall()
        hall.takeover(0)
        come(hall, "ask")
        hall.arm(0, 1)
        hall.takeover(0)
        hall.rise(0, cut=1)
        self.assertEqual((hall.known(0), hall.letters()), ((2, 0, 0, 0), [("let", 1, 0, 1), ("let", 2, 0, 1)]))
        settle(hall)
        self.assertEqual((hall.leaders(), hall.log(0)), ([], []))
        hall.arm(0, 1)
        hall.takeover(0)
        hall.rise(0)
        self.assertEqual(hall.known(0)[0], 2)
        hall.takeover(0)
        settle(hall)
        self.assertEqual((hall.leaders(), hall.known(0)), ([0], (3, 0, 1, 1)))


class Stores(unittest.TestCase):
    """What a house keeps for dealings, which no letter tells."""

    def test_a_leader_s_store_is_swept_with_its_pages(self):
        house = House(0, 1, [], {})
        house.take_over()
        for number in range(2, 6):
            house.append_deal(0, number, (("table", "t", ("k",)),) if number == 2 else (("row", "t", 1, (1,)),))
        dealing = house.store.opened(number=3)
        house.make_pages()
        self.assertEqual((house.store.first, house.store.newest, house.log.base()), (3, 5, 5))
        dealing.end()
        house.make_pages()
        self.assertEqual((house.store.first, house.store.versions()), (5, 1))

    def test_a_dropped_dealing_is_open_no_more(self):
        store = Store()
        asker = Asker(0)
        asker.drop()
        asker.draft = Draft(store.opened(), 1)
        self.assertEqual(store.eldest(), 0)
        asker.drop()
        self.assertEqual((store.eldest(), asker.draft), (None, None))


if __name__ == "__main__":
    unittest.main()
