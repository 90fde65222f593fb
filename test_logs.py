"""Logs: promise 13, and of 14 that what was told done is there behind a fall."""

import copy
import unittest

from granary.disks import Disk
from granary.errors import BadNumber, Gone, StoreError
from granary.logs import Log, recovered
from granary.versions import based

EMPTY = ((), (), ())
WRITES = (
    (("table", "t", ("k", "a")),) + tuple(("row", "t", key, (key, key)) for key in range(9)),
    (("index", "t", "a"), ("row", "t", 3, None), ("row", "t", 20, (20, 1))),
    (("table", "u", ("m",)), ("table", "e", ("x", "y"))),
    (("row", "u", 5, (5,)), ("row", "t", 0, (0, 50))),
    (),
)
WHOLE = (
    (("e", ("x",)), ("t", ("k", "a"))), (("t", "a"),),
    (("t", tuple((key, -key) for key in range(17))),),
)


def deal(number, term=1, writes=None):
    if writes is None:
        writes = WRITES[number - 1] if number <= len(WRITES) else (("row", "t", 1, (1, number)),)
    return ("deal", term, number, 2, number + 10, writes)


def log(many=5, disk=None, term_of=lambda number: 1 + number // 3):
    """A log of records with terms 1, 1, 2, 2, 2, .."""
    made = Log(disk or Disk())
    made.mark(4, 1)
    for number in range(1, many + 1):
        made.append(deal(number, term_of(number)))
    return made


def state(made):
    """All that a log tells."""
    return (
        made.term(), made.vote(), made.base(), made.last(), made.records(0), made.content(),
        [made.term_of(number) for number in range(-1, made.last() + 2)],
        [made.has(number) for number in range(-1, made.last() + 2)],
        [made.store(number=number).content(number) for number in range(made.base(), made.last() + 1)],
    )


class Fresh(unittest.TestCase):
    def test_of_a_new_disk(self):
        made = Log(Disk())
        self.assertEqual((made.term(), made.vote(), made.base(), made.last()), (0, None, 0, 0))
        self.assertEqual((made.has(0), made.has(1), made.has(-1)), (True, False, False))
        self.assertEqual((made.term_of(0), made.term_of(1), made.term_of(-1)), (0, None, None))
        self.assertEqual((made.records(0), made.records(1), made.content()), ([], [], (0, 0, EMPTY)))
        self.assertEqual((made.store().first, made.store().newest, made.store().content(0)), (0, 0, EMPTY))
        records, store, base = recovered(Disk())
        self.assertEqual((records, store.newest, base), ([], 0, 0))

    def test_two_logs_are_apart(self):
        one, other = log(2), log(3)
        one.mark(9, None)
        self.assertEqual((other.term(), other.last(), one.last()), (4, 3, 2))


class Marking(unittest.TestCase):
    def test_term_and_vote(self):
        made = Log(Disk())
        for term, vote in ((1, None), (1, 0), (2, 4), (7, None)):
            self.assertIsNone(made.mark(term, vote))
            self.assertEqual((made.term(), made.vote()), (term, vote))
        self.assertEqual((made.last(), made.records(0)), (0, []))

    def test_nothing_else_is_changed_by_it(self):
        made = log()
        before = state(made)
        made.mark(8, 0)
        self.assertEqual(state(made)[2:], before[2:])
        self.assertEqual(state(made)[:2], (8, 0))


class Appending(unittest.TestCase):
    def test_records_in_turn(self):
        made = log(0)
        self.assertIsNone(made.append(deal(1)))
        self.assertEqual((made.last(), made.base(), made.records(1)), (1, 0, [deal(1)]))
        made.append(deal(2, 3))
        self.assertEqual(made.records(0), [deal(1), deal(2, 3)])
        self.assertEqual(made.records(2), [deal(2, 3)])
        self.assertEqual(made.records(3), [])
        self.assertEqual([made.term_of(number) for number in (0, 1, 2, 3)], [0, 1, 3, None])
        self.assertEqual([made.has(number) for number in (-1, 0, 1, 2, 3)], [False, True, True, True, False])

    def test_another_number(self):
        for made, numbers in ((log(0), (0, 2, -1)), (log(3), (0, 1, 3, 5))):
            before = state(made)
            for number in numbers:
                with self.assertRaises(BadNumber) as caught:
                    made.append(deal(number, 9))
                self.assertIsInstance(caught.exception, StoreError)
            self.assertEqual(state(made), before)

    def test_the_store_of_each_number(self):
        made = log()
        expected = [based(0, EMPTY).content(0)]
        store = based(0, EMPTY)
        for number in range(1, 6):
            store.take(number, WRITES[number - 1])
            expected.append(store.content(number))
        self.assertEqual([made.store(number=number).content(number) for number in range(6)], expected)
        told = made.store()
        self.assertEqual((told.first, told.newest), (0, 5))
        self.assertEqual([told.content(number) for number in range(6)], expected)
        self.assertEqual((made.store(number=2).first, made.store(number=2).newest), (0, 2))
        self.assertEqual(made.content(), (0, 0, EMPTY))

    def test_a_store_that_there_is_not(self):
        made = log()
        for number in (-1, 6, 99):
            with self.assertRaises(BadNumber):
                made.store(number=number)
        made.checkpoint(3)
        for number in (0, 2, 6):
            with self.assertRaises(BadNumber):
                made.store(number=number)


class Cutting(unittest.TestCase):
    def test_records_from_a_number_on_go(self):
        for number in range(1, 7):
            made = log()
            self.assertIsNone(made.cut(number))
            self.assertEqual(state(made), state(log(number - 1)))
            made.append(deal(number, 7, ()))
            self.assertEqual(made.records(number), [deal(number, 7, ())])
            self.assertEqual(made.store().content(number), log(number - 1).store().content(number - 1))

    def test_others(self):
        made = log()
        made.checkpoint(2)
        before = state(made)
        for number in (-1, 0, 1, 2, 7, 8):
            with self.assertRaises(BadNumber):
                made.cut(number)
            self.assertEqual(state(made), before)
        made.cut(6)
        self.assertEqual(state(made), before)
        made.cut(3)
        self.assertEqual((made.base(), made.last(), made.records(0)), (2, 2, []))


class Checkpoint(unittest.TestCase):
    def test_how_many_pages(self):
        for number, pages in ((0, 0), (1, 2), (2, 2), (3, 2), (4, 3), (5, 3)):
            self.assertEqual(log().checkpoint(number), pages)
        for rows, pages in ((0, 0), (1, 1), (7, 1), (8, 1), (9, 2), (16, 2), (17, 3)):
            made = Log(Disk())
            made.append(deal(1, writes=(("table", "t", ("k",)), ("table", "v", ("k",)))))
            made.append(deal(2, writes=tuple(("row", "v", key, (key,)) for key in range(rows))))
            self.assertEqual(made.checkpoint(2), pages)

    def test_pages_on_the_disk(self):
        disk = Disk()
        made = log(5, disk)
        ahead = len(disk.units())
        many = made.checkpoint(4)
        pages = disk.units()[ahead:ahead + many]
        self.assertEqual([(page[1], len(page[2])) for page in pages], [("t", 8), ("t", 1), ("u", 1)])

    def test_what_is_told_behind_it(self):
        made, whole = log(), log()
        for number in range(6):
            self.assertIsInstance(made.checkpoint(number), int)
            self.assertEqual((made.base(), made.last()), (number, 5))
            self.assertEqual(made.records(0), whole.records(number + 1))
            self.assertEqual(made.content(), (number, whole.term_of(number), whole.store().content(number)))
            for at in range(-1, 7):
                self.assertEqual(made.has(at), number <= at <= 5)
                self.assertEqual(made.term_of(at), whole.term_of(at) if number <= at else None)
                if made.has(at):
                    self.assertEqual(made.store(number=at).content(at), whole.store().content(at))
                    self.assertEqual((made.store(number=at).first, made.store(number=at).newest), (number, at))
        self.assertEqual((made.term(), made.vote()), (4, 1))

    def test_of_the_base_again(self):
        made = log()
        made.checkpoint(4)
        before = state(made)
        self.assertEqual(made.checkpoint(4), 3)
        self.assertEqual(state(made), before)

    def test_a_number_that_it_has_not(self):
        made = log()
        made.checkpoint(3)
        before = state(made)
        for number in (-1, 0, 2, 6, 7):
            with self.assertRaises(BadNumber):
                made.checkpoint(number)
            self.assertEqual(state(made), before)

    def test_records_behind_it(self):
        made = log()
        made.checkpoint(5)
        made.append(deal(6, 8))
        self.assertEqual((made.last(), made.records(0), made.term_of(6)), (6, [deal(6, 8)], 8))
        self.assertEqual(made.store().row("t", 1, 6), (1, 6))
        self.assertEqual(made.checkpoint(6), 3)


class Whole(unittest.TestCase):
    def test_over_a_shorter_and_a_longer_log(self):
        for number in (2, 4, 5, 6, 40):
            made = log()
            made.checkpoint(1)
            self.assertIsNone(made.take_whole(number, 7, WHOLE))
            self.assertEqual((made.base(), made.last(), made.records(0)), (number, number, []))
            self.assertEqual(made.content(), (number, 7, WHOLE))
            self.assertEqual([made.term_of(at) for at in (number - 1, number, number + 1)], [None, 7, None])
            self.assertEqual([made.has(at) for at in (number - 1, number, number + 1)], [False, True, False])
            self.assertEqual((made.term(), made.vote()), (4, 1))
            self.assertEqual(made.store().content(number), WHOLE)
            self.assertEqual((made.store().first, made.store().newest), (number, number))
            made.append(deal(number + 1, 8, (("row", "t", 0, None),)))
            self.assertEqual(made.store().row("t", 0, number + 1), None)
            self.assertEqual(made.store().row("t", 16, number + 1), (16, -16))

    def test_of_nothing(self):
        made = log()
        made.take_whole(9, 3, EMPTY)
        self.assertEqual(made.content(), (9, 3, EMPTY))

    def test_pages_of_one_behind_those_of_another(self):
        made = log()
        made.take_whole(9, 3, WHOLE)
        made.checkpoint(9)
        made.take_whole(11, 4, EMPTY)
        self.assertEqual(made.content(), (11, 4, EMPTY))


class Again(unittest.TestCase):
    """A log made anew of the same disk, and what recovered tells."""

    def deeds(self):
        return (
            lambda made: made.mark(9, None), lambda made: made.append(deal(6, 9)), lambda made: made.cut(4),
            lambda made: made.cut(6), lambda made: made.checkpoint(0), lambda made: made.checkpoint(3),
            lambda made: made.checkpoint(5), lambda made: made.take_whole(3, 6, WHOLE),
            lambda made: made.take_whole(8, 6, WHOLE), lambda made: made.take_whole(8, 6, EMPTY),
        )

    def test_it_is_as_it_was(self):
        for deed in self.deeds():
            disk = Disk()
            made = log(5, disk)
            deed(made)
            self.assertEqual(state(Log(disk)), state(made))
            disk.fall(0)
            again = Log(disk)
            self.assertEqual(state(again), state(made))
            records, store, base = recovered(disk)
            self.assertEqual((records, base), (made.records(0), made.base()))
            self.assertEqual((store.first, store.newest), (made.base(), made.last()))
            self.assertEqual(store.content(store.newest), made.store().content(made.last()))

    def test_power_that_goes_amid_a_deed(self):
        """It is as ahead, or behind, whatever units are there, and goes on."""
        for deed in self.deeds():
            for many in range(6):
                for cut in range(6):
                    self.fall_amid(deed, many, cut)

    def fall_amid(self, deed, many, cut):
        disk = Disk()
        made = log(5, disk)
        ahead = state(made)
        other = log(5)
        deed(other)
        behind = state(other)
        disk.arm(many)
        try:
            deed(made)
            done = True
        except Gone:
            done = False
            self.assertEqual(state(made), ahead)
        disk.fall(cut)
        again = Log(disk)
        self.assertIn(state(again), [behind] if done else [ahead, behind])
        self.go_on(disk, again)

    def go_on(self, disk, again):
        """The log made anew does each deed as one does that never fell."""
        number = again.last() + 1
        again.append(deal(number, 10, (("table", "z", ("q",)), ("row", "z", 1, (1,)))))
        again.mark(11, 2)
        again.append(deal(number + 1, 11, ()))
        again.checkpoint(number)
        before = state(again)
        disk.fall(3)
        self.assertEqual(state(Log(disk)), before)
        self.assertEqual(before[:4], (11, 2, number, number + 1))
        self.assertEqual(again.store().row("z", 1, number + 1), (1,))

    def test_both_may_be_with_the_units_that_are_there(self):
        for deed in self.deeds():
            found = set()
            for cut in (0, 9):
                disk = Disk()
                made = log(5, disk)
                ahead = state(made)
                disk.arm(self.writes_of(deed))
                with self.assertRaises(Gone):
                    deed(made)
                disk.fall(cut)
                found.add(state(Log(disk)) == ahead)
            other = log(5)
            before = state(other)
            deed(other)
            self.assertEqual(found, {True} if state(other) == before else {True, False})

    def writes_of(self, deed):
        """How many units a deed writes."""
        disk = Disk()
        made = log(5, disk)
        ahead = len(disk.units())
        deed(made)
        return len(disk.units()) - ahead

    def test_what_was_told_done_lasts_where_a_later_deed_fails(self):
        for deed in self.deeds():
            disk = Disk()
            made = log(5, disk)
            deed(made)
            before = state(made)
            disk.arm(0)
            with self.assertRaises(Gone):
                made.mark(20, None)
            disk.fall(0)
            self.assertEqual(state(Log(disk)), before)

    def test_pages_that_were_left_over_by_a_fall(self):
        disk = Disk()
        made = log(5, disk)
        disk.arm(2)
        with self.assertRaises(Gone):
            made.checkpoint(4)
        disk.fall(2)
        again = Log(disk)
        self.assertEqual(again.base(), 0)
        again.take_whole(7, 3, (WHOLE[0], (), (("e", ((1,),)),)))
        self.assertEqual(Log(disk).content(), (7, 3, (WHOLE[0], (), (("e", ((1,),)),))))
        disk.arm(1)
        with self.assertRaises(Gone):
            again.checkpoint(7)
        disk.fall(1)
        last = Log(disk)
        last.take_whole(9, 3, EMPTY)
        self.assertEqual(Log(disk).content(), (9, 3, EMPTY))

    def test_a_disk_without_power(self):
        disk = Disk()
        made = log(2, disk)
        disk.arm(0)
        for deed in (lambda: made.append(deal(3)), lambda: made.cut(1), lambda: made.checkpoint(1), lambda: Log(disk)):
            with self.assertRaises(Gone):
                deed()
        with self.assertRaises(BadNumber):
            made.append(deal(7))
        self.assertEqual((made.last(), made.base(), made.term_of(2)), (2, 0, 1))


class Apart(unittest.TestCase):
    def test_what_is_handed_in_is_kept_as_a_copy(self):
        made = Log(Disk())
        record = ["deal", 1, 1, 0, 0, [["table", "t", ["k"]], ["row", "t", 1, [1]]]]
        before = copy.deepcopy(record)
        made.append(record)
        self.assertEqual(record, before)
        record[5][1][3][0] = 9
        record[5].clear()
        kept = ("deal", 1, 1, 0, 0, (("table", "t", ("k",)), ("row", "t", 1, (1,))))
        self.assertEqual(made.records(1), [kept])
        content = [[["t", ["k"]]], [], [["t", [[1], [2]]]]]
        before = copy.deepcopy(content)
        made.take_whole(4, 1, content)
        self.assertEqual(content, before)
        content[2][0][1][0][0] = 9
        self.assertEqual(made.content(), (4, 1, ((("t", ("k",)),), (), (("t", ((1,), (2,))),))))

    def test_what_is_told_may_be_changed(self):
        disk = Disk()
        made = log(5, disk)
        before = state(made)
        made.records(0).clear()
        recovered(disk)[0].clear()
        made.store().take(6, (("row", "t", 1, None),))
        recovered(disk)[1].take(6, ())
        disk.units().clear()
        self.assertEqual(state(made), before)
        self.assertEqual(state(Log(disk)), before)


if __name__ == "__main__":
    unittest.main()
