"""Days with lost and late letters, falls, takeovers, clashes, turns: promises 1, 21, 22 and 24, whatever happens."""

import random
import unittest

from granary.days import day_text, played, read_day
from granary.errors import StoreError
from granary.halls import Hall
from granary.judging import judged
from granary.plain import plain_of
from posting import settle
from storms import Storm

DAY = (
    "takeover 0", "come 0", "come 0", "come 0", "come 0", "come 0", "come 0", "ask 0 table t k a", "come 0", "come 0",
    "come 0", "ask 0 begin", "ask 0 put t 1 10", "ask 0 put t 2 20", "ask 0 done", "come 0", "come 0", "come 0",
    "come 0", "come 0", "checkpoint 0", "ask 0 set t a = a + 1", "come 0", "come 0", "beat 0", "come 0", "come 0",
    "come 0", "come 0", "checkpoint 0", "ask 0 sum a from t", "checkpoint 1", "come 0", "come 0", "come 0", "come 0",
    "come 0", "come 0", "come 0", "come 0",
)


def judge(test, storm):
    """All that must hold at the end of a day."""
    test.assertEqual(storm.wrong, [])
    histories, tickets = storm.histories(), storm.done_tickets()
    test.assertIsNone(judged(histories, tickets))
    dealings = {ticket: (texts, answers) for told in histories for texts, answers, ticket in told}
    test.assertEqual(sorted(dealings), list(range(storm.hall.count_tickets())))
    texts = [text for ticket in tickets for text in dealings[ticket][0]]
    test.assertEqual(plain_of(texts)[0], [answer for ticket in tickets for answer in dealings[ticket][1]])


def end(storm):
    """Lets all be up, and one house lead, so that all that stands is done and known to all."""
    hall = storm.hall
    for _ in range(200):
        for house in range(storm.houses):
            storm.do("rise", house, 0)
        while hall.letters():
            storm.do("come", 0)
        leaders = hall.leaders()
        known = {number for house in range(storm.houses) for number in hall.known(house)[2:]}
        if len(leaders) == 1 and len(known) == 1:
            return storm
        for house in leaders or [storm.source.randrange(storm.houses)]:
            storm.do("beat" if leaders else "takeover", house)
    raise AssertionError("no house came to lead")


class Storms(unittest.TestCase):
    def storms(self, seeds, many, rough):
        for seed in seeds:
            source = random.Random(seed)
            storm = Storm(source, source.choice((1, 2, 3, 3, 3, 4, 5)), source.randint(1, 5), rough)
            yield storm.go(many)

    def test_all_that_is_done_is_told_so_by_a_plain_store(self):
        for rough in (0.1, 0.3, 0.6):
            for storm in self.storms(range(40), 200, rough):
                judge(self, storm)

    def test_and_at_the_end_all_houses_hold_the_same(self):
        for storm in self.storms(range(100, 150), 150, 0.4):
            judge(self, end(storm))
            hall = storm.hall
            lasts = [hall.known(house)[2] for house in range(storm.houses)]
            self.assertEqual(len(set(lasts)), 1)
            contents = [hall.content(house, lasts[0]) for house in range(storm.houses)]
            self.assertEqual(contents, contents[:1] * storm.houses)
            dealings = {ticket: texts for told in storm.histories() for texts, _, ticket in told}
            plain = plain_of([text for ticket in storm.done_tickets() for text in dealings[ticket]])[1]
            for table, fields in contents[0][0]:
                rows = dict(contents[0][2]).get(table, ())
                self.assertEqual(plain.tell(f"pick {', '.join(fields)} from {table}"), ("told", list(rows)))
            for ticket in range(hall.count_tickets()):
                stands = hall.shown(ticket)[4] <= lasts[0]
                self.assertIn(hall.found(ticket), ("done", "gone") if stands else ("unknown",))

    def test_each_sort_of_deed_and_answer_comes(self):
        words, kinds = set(), set()
        for storm in self.storms(range(200, 240), 200, 0.4):
            words |= {deed[0] for deed in storm.deeds}
            kinds |= {told[:1] if told[0] != "refused" else told for told in storm.told if isinstance(told, tuple)}
            kinds |= set(storm.settled.values())
        self.assertLessEqual(set("ask come lose takeover beat checkpoint fall rise arm turn".split()), words)
        refused = {("refused", word) for word in "BadText BadName BadRow Twice TooGreat Within".split()}
        self.assertLessEqual({("away",), ("told",), ("clash",), ("waits",)} | refused, kinds)
        self.assertLessEqual({"done", "gone"}, kinds)

    def test_the_same_day_tells_the_same(self):
        for storm in self.storms(range(300, 320), 150, 0.3):
            text = day_text(storm.deeds)
            self.assertEqual(read_day(text), storm.deeds)
            one = played(text, houses=storm.houses, askers=storm.askers)
            other = played(text, houses=storm.houses, askers=storm.askers)
            self.assertEqual((one[0], other[0]), (storm.told, storm.told))
            self.assertEqual(self.looks(one[1], storm), self.looks(other[1], storm))

    def looks(self, hall, storm):
        """All that a hall tells without a deed."""
        houses, askers, tickets = range(storm.houses), range(storm.askers), range(hall.count_tickets())
        told = [hall.letters(), hall.leaders()]
        told += [(hall.known(house), hall.log(house), hall.shaped(house)) for house in houses]
        told += [hall.content(house, number) for house in houses for number in range(*hall.known(house)[1:3])]
        told += [(hall.house_of(asker), hall.dealings(asker), hall.underway(asker)) for asker in askers]
        told += [(hall.found(ticket), hall.shown(ticket), hall.paper(ticket)) for ticket in tickets]
        for house in houses:
            for table in hall.shaped(house)[0]:
                told += [hall.past(house, table, key) for key in range(6)]
                told.append(hall.compared(house, f"count from {table} where k = 1"))
        return told

    def test_looking_changes_nothing(self):
        for storm in self.storms(range(400, 415), 100, 0.3):
            first = self.looks(storm.hall, storm)
            self.assertEqual(self.looks(storm.hall, storm), first)

    def test_what_is_told_may_be_changed(self):
        for storm in self.storms(range(500, 510), 100, 0.3):
            first = self.looks(storm.hall, storm)
            spoil(self.looks(storm.hall, storm))
            self.assertEqual(self.looks(storm.hall, storm), first)

    def test_what_is_refused_changes_nothing(self):
        for storm in self.storms(range(600, 610), 100, 0.3):
            hall = storm.hall
            first = self.looks(hall, storm)
            for asked in (
                lambda: hall.ask(9, "begin"), lambda: hall.turn(0, 5), lambda: hall.turn(9, 0), lambda: hall.rise(5),
                lambda: hall.arm(0, -1), lambda: hall.arm(5, 0), lambda: hall.takeover(-1), lambda: hall.beat(5),
                lambda: hall.checkpoint(5), lambda: hall.fall(5), lambda: hall.found(10 ** 6), lambda: hall.paper(-1),
                lambda: hall.content(0, 10 ** 6), lambda: hall.past(0, "nosuch", 1), lambda: hall.compared(0, "begin"),
            ):
                self.assertRaises(StoreError, asked)
            self.assertEqual((hall.come(-1), hall.lose(10 ** 6)), (False, False))
            self.assertEqual(self.looks(hall, storm), first)


def spoil(value):
    """Changes all lists and dicts in what was told."""
    parts = list(value.values()) if isinstance(value, dict) else list(value) if isinstance(value, (list, tuple)) else []
    for part in parts:
        spoil(part)
    if isinstance(value, (list, dict)):
        value.clear()


class Power(unittest.TestCase):
    """Power goes at each deed of each disk, at each place of a day."""

    def deeds(self, storm, rows):
        for word, numbers, text in read_day("\n".join(rows)):
            storm.do(word, *numbers, text=text)

    def test_at_each_deed_of_a_disk(self):
        for house in range(3):
            for many in range(24):
                for cut in (0, 1, 5):
                    storm = Storm(random.Random(many))
                    self.deeds(storm, (f"arm {house} {many}",) + DAY)
                    told = storm.hall.dealings(0)
                    storm.do("rise", house, cut)
                    judge(self, end(storm))
                    self.assertEqual(storm.hall.dealings(0), told)

    def test_amid_a_day_of_pages(self):
        for at in range(0, len(DAY), 3):
            for many in range(4):
                for cut in (0, 1, 2):
                    storm = Storm(random.Random(at))
                    self.deeds(storm, DAY[:at] + (f"arm 0 {many}",) + DAY[at:])
                    storm.do("rise", 0, cut)
                    judge(self, end(storm))

    def test_what_was_done_is_there_behind_falls_of_all(self):
        storm = Storm(random.Random(1))
        self.deeds(storm, DAY)
        done = storm.done_tickets()
        self.assertEqual(done, [0, 1, 2, 3])
        for cut in range(3):
            for house in range(3):
                storm.do("fall", house)
            self.assertEqual(storm.done_tickets(), done)
            judge(self, end(storm))
            self.assertEqual(storm.done_tickets(), done)
        self.assertEqual(storm.hall.content(1, storm.hall.known(1)[2])[2], (("t", ((1, 11), (2, 21))),))


class Halls(unittest.TestCase):
    def test_two_halls_are_apart(self):
        one, other = Hall(houses=1), Hall(houses=1)
        one.takeover(0)
        one.ask(0, "table t k")
        self.assertEqual((other.known(0), other.ask(0, "begin")), ((0, 0, 0, 0), ("away",)))
        settle(one)


if __name__ == "__main__":
    unittest.main()
