"""Disks: promise 14."""

import unittest

from granary.disks import Disk
from granary.errors import BadNumber, Gone, StoreError


def disk(settled=(), loose=()):
    made = Disk()
    for unit in settled:
        made.write(unit)
    made.settle()
    for unit in loose:
        made.write(unit)
    return made


class Writing(unittest.TestCase):
    def test_units_in_turn_settled_or_not(self):
        made = Disk()
        self.assertEqual(made.units(), [])
        self.assertIsNone(made.write("a"))
        self.assertEqual(made.units(), ["a"])
        self.assertIsNone(made.settle())
        made.write("b")
        made.write("a")
        self.assertEqual(made.units(), ["a", "b", "a"])

    def test_units_of_each_kind(self):
        units = [1, "a", None, (1, "b"), [2, [3]], {"a": [1]}, b"x", True]
        self.assertEqual(disk(units[:4], units[4:]).units(), units)

    def test_two_disks_are_apart(self):
        one, other = disk(["a"]), disk(["b"])
        one.arm(0)
        with self.assertRaises(Gone):
            one.write("c")
        other.write("d")
        self.assertEqual(other.units(), ["b", "d"])


class Falling(unittest.TestCase):
    def test_what_was_settled_lasts_and_the_first_cut_ones(self):
        for cut, units in enumerate((["a", "b"], ["a", "b", "c"], ["a", "b", "c", "d"], ["a", "b", "c", "d"])):
            made = disk(["a", "b"], ["c", "d"])
            self.assertIsNone(made.fall(cut))
            self.assertEqual(made.units(), units)
            made.fall(0)
            self.assertEqual(made.units(), units)

    def test_units_behind_a_fall(self):
        made = disk(["a"], ["b", "c"])
        made.fall(1)
        made.write("d")
        self.assertEqual(made.units(), ["a", "b", "d"])
        made.fall(0)
        self.assertEqual(made.units(), ["a", "b"])
        made.write("e")
        made.settle()
        made.fall(0)
        self.assertEqual(made.units(), ["a", "b", "e"])

    def test_where_nothing_was_settled(self):
        for cut in (0, 1, 2):
            made = Disk()
            made.write("a")
            made.write("b")
            made.fall(cut)
            self.assertEqual(made.units(), ["a", "b"][:cut])

    def test_of_nothing(self):
        made = Disk()
        made.fall(0)
        made.fall(5)
        self.assertEqual(made.units(), [])


class Arming(unittest.TestCase):
    def test_power_for_so_many_writes_and_settles(self):
        for many in range(6):
            for settling in (False, True):
                made = Disk()
                self.assertIsNone(made.arm(many))
                for at in range(many):
                    made.settle() if settling else made.write(at)
                self.assertEqual(made.units(), [] if settling else list(range(many)))
                with self.assertRaises(Gone) as caught:
                    made.write("more")
                self.assertIsInstance(caught.exception, StoreError)
                made.fall(many)
                self.assertEqual(made.units(), [] if settling else list(range(many)))

    def test_a_settle_that_is_refused_is_not_done(self):
        made = disk(["a"])
        made.arm(1)
        made.write("b")
        with self.assertRaises(Gone):
            made.settle()
        made.fall(0)
        self.assertEqual(made.units(), ["a"])

    def test_units_may_be_asked_up_to_the_refusal(self):
        made = disk(["a"])
        made.arm(0)
        self.assertEqual(made.units(), ["a"])
        self.assertEqual(made.units(), ["a"])
        with self.assertRaises(Gone):
            made.settle()
        with self.assertRaises(Gone):
            made.units()

    def test_all_but_arm_and_fall_are_refused_behind_it(self):
        made = disk(["a"], ["b"])
        made.arm(0)
        with self.assertRaises(Gone):
            made.write("c")
        made.arm(5)
        for ask in (made.settle, made.units, lambda: made.write("d"), made.units):
            with self.assertRaises(Gone):
                ask()
        with self.assertRaises(BadNumber):
            made.arm(-1)
        made.fall(7)
        self.assertEqual(made.units(), ["a", "b"])

    def test_a_fall_lets_power_be_there_for_ever(self):
        for many in (0, 2):
            made = disk(["a"])
            made.arm(many)
            made.fall(0)
            for at in range(9):
                made.write(at)
                made.settle()
            self.assertEqual(made.units(), ["a", *range(9)])

    def test_armed_again(self):
        made = disk()
        made.arm(0)
        with self.assertRaises(Gone):
            made.settle()
        made.fall(0)
        made.arm(1)
        made.write("a")
        with self.assertRaises(Gone):
            made.write("b")
        made.fall(1)
        self.assertEqual(made.units(), ["a"])

    def test_the_last_arm_holds(self):
        made = disk()
        made.arm(0)
        made.arm(2)
        made.write("a")
        made.arm(1)
        made.write("b")
        with self.assertRaises(Gone):
            made.write("c")


class Wrong(unittest.TestCase):
    def test_less_than_0(self):
        made = disk(["a"], ["b"])
        for ask in (made.arm, made.fall):
            for number in (-1, -7):
                with self.assertRaises(BadNumber) as caught:
                    ask(number)
                self.assertIsInstance(caught.exception, StoreError)
        made.write("c")
        self.assertEqual(made.units(), ["a", "b", "c"])
        made.fall(1)
        self.assertEqual(made.units(), ["a", "b"])


class Apart(unittest.TestCase):
    def test_what_is_handed_in_and_told_may_be_changed(self):
        unit = ["a", ["b"], {"c": [1]}, (["d"],)]
        made = disk([unit])
        unit[1].append("x")
        unit[2]["c"].append(2)
        unit[3][0].append("x")
        expected = [["a", ["b"], {"c": [1]}, (["d"],)]]
        self.assertEqual(made.units(), expected)
        told = made.units()
        told[0][1].append("y")
        told[0][3][0].clear()
        told[0][2]["c"] = 9
        told.clear()
        self.assertEqual(made.units(), expected)


if __name__ == "__main__":
    unittest.main()
