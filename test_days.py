"""Days as texts, and playing them: promise 25."""

import unittest

from granary.days import day_text, played, read_day
from granary.errors import BadNumber, BadText, StoreError
from granary.halls import Hall

ROWS = (
    ("ask 0 begin", ("ask", (0,), "begin")), ("ask 12 put t 1 -2", ("ask", (12,), "put t 1 -2")),
    ("ask 3  x  ", ("ask", (3,), " x  ")), ("ask 1  ", ("ask", (1,), " ")), ("come 0", ("come", (0,), "")),
    ("lose 999", ("lose", (999,), "")), ("takeover 2", ("takeover", (2,), "")), ("beat 1", ("beat", (1,), "")),
    ("checkpoint 0", ("checkpoint", (0,), "")), ("fall 10", ("fall", (10,), "")), ("found 7", ("found", (7,), "")),
    ("known 0", ("known", (0,), "")), ("log 3", ("log", (3,), "")), ("dealings 4", ("dealings", (4,), "")),
    ("shown 100", ("shown", (100,), "")), ("rise 1 0", ("rise", (1, 0), "")), ("arm 2 15", ("arm", (2, 15), "")),
    ("turn 0 999", ("turn", (0, 999), "")), ("letters", ("letters", (), "")), ("leaders", ("leaders", (), "")),
)
WRONG = (
    "", " ", "ask", "ask 0", "ask 0 ", "ask  0 x", "ask x y", "ask 00 x", "ask 1000 x", "ask -1 x", " ask 0 x",
    "Ask 0 x", "come", "come 0 0", "come  0", "come 0 ", " come 0", "come 01", "come 1000", "come -1", "come +1",
    "come x", "lose", "takeover", "takeover 1 2", "beat", "checkpoint", "fall a", "found", "known 0 1", "log",
    "dealings", "shown", "rise", "rise 1", "rise 1 2 3", "rise 1  2", "rise 1 02", "arm 1", "arm 1 -1", "turn 1",
    "turn x 1", "letters 0", "letters ", "leaders 1", "house 1", "paper 0", "content 0 1", "askx 0 y", "comes 0",
    "0", "come\t0", "letters,",
)


class Reading(unittest.TestCase):
    def test_each_deed(self):
        for row, deed in ROWS:
            self.assertEqual(read_day(row), [deed])
            self.assertEqual(day_text([deed]), row)

    def test_several(self):
        text = "\n".join(row for row, _ in ROWS)
        deeds = [deed for _, deed in ROWS]
        self.assertEqual(read_day(text), deeds)
        self.assertEqual(day_text(deeds), text)
        self.assertEqual(day_text(tuple(deeds)), text)

    def test_no_deeds(self):
        self.assertEqual(read_day(""), [])
        self.assertEqual(day_text([]), "")

    def test_wrong_rows(self):
        for row in WRONG:
            for ahead in (1, 2, 5):
                text = "\n".join(["come 0"] * ahead + [row])
                with self.assertRaises(BadText) as caught:
                    read_day(text)
                self.assertEqual(caught.exception.place, ahead, row)
                self.assertIsInstance(caught.exception, StoreError)
            if row != "":
                with self.assertRaises(BadText) as caught:
                    read_day(row + "\ncome 0")
                self.assertEqual(caught.exception.place, 0)

    def test_the_first_wrong_row_is_told(self):
        for text, place in (("\n", 0), ("come 0\n", 1), ("\ncome 0", 0), ("come 0\ncome\nlose", 1), ("x\ny", 0)):
            with self.assertRaises(BadText) as caught:
                read_day(text)
            self.assertEqual(caught.exception.place, place)

    def test_what_is_told_may_be_changed(self):
        read_day("come 0").clear()
        self.assertEqual(read_day("come 0"), [("come", (0,), "")])


class Playing(unittest.TestCase):
    DAY = (
        ("leaders", []), ("takeover 0", True), ("letters", [("ask", 0, 1, 1), ("ask", 0, 2, 1)]), ("come 1", True),
        ("come 1", True), ("lose 0", True), ("lose 7", False), ("leaders", [0]), ("ask 0 table t k a", ("waits", 0, 0)),
        ("come 0", True), ("come 3", True), ("come 0", True), ("found 0", "unknown"), ("beat 0", True),
        ("come 1", True), ("come 1", True), ("known 0", (1, 0, 2, 1)), ("come 2", True), ("come 2", True),
        ("found 0", "done"),
        ("ask 0 begin", ("told", 0)), ("ask 0 nonsense", ("refused", "BadText")), ("ask 0 put t 1 2", ("told", 1)),
        ("ask 1 put t 1 3", ("waits", 1, 1)), ("ask 0 done", ("clash",)), ("turn 2 1", None),
        ("ask 2 begin", ("away",)), ("arm 0 1", None), ("ask 1 pick k, a from t", ("waits", 2, [(1, 3)])),
        ("fall 0", False), ("rise 0 1", True),
        ("rise 0 1", False), ("log 0", [(1, 1, -1, -1), (1, 2, 0, 0), (1, 3, 1, 1), (1, 4, 1, 2)]),
        ("checkpoint 0", True), ("known 0", (1, 0, 4, 0)), ("fall 1", True), ("checkpoint 1", False), ("beat 1", False),
        ("dealings 0", [(["table t k a"], [("told", 0)], 0)]),
        ("shown 2", (["pick k, a from t"], [("told", [(1, 3)])], 0, 1, 4, [0])), ("come 0", True),
    )

    def hall_of(self, day):
        """The hall that does a day, all of which tells what it must."""
        told, hall = played("\n".join(row for row, _ in day))
        for (row, expected), answer in zip(day, told, strict=True):
            self.assertEqual(answer, expected, row)
        return hall

    def test_what_the_methods_tell(self):
        hall = self.hall_of(self.DAY)
        self.assertIsInstance(hall, Hall)
        self.assertEqual((hall.count_tickets(), hall.house_of(2), hall.leaders()), (3, 1, []))

    def test_a_let_that_comes_behind_a_rise(self):
        hall = self.hall_of((
            ("takeover 1", True), ("come 1", True), ("fall 1", True), ("rise 1 0", True), ("come 1", True),
            ("leaders", []), ("log 1", []), ("known 1", (1, 0, 0, 0)), ("letters", [("ask", 1, 0, 1)]),
            ("takeover 1", True), ("come 1", True), ("come 1", True), ("come 1", True), ("leaders", [1]),
            ("log 1", [(2, 1, -1, -1)]),
            ("letters", [("ask", 1, 0, 1), ("let", 2, 1, 2), ("send", 1, 0, 2), ("send", 1, 2, 2)]),
        ))
        self.assertEqual(hall.known(1), (2, 0, 1, 0))

    def test_rise_s_second_number_is_cut(self):
        day = "arm 0 1\ntakeover 0\nrise 0 {}\nknown 0"
        self.assertEqual([played(day.format(cut))[0][-1][0] for cut in (0, 1)], [0, 1])

    def test_how_many_houses_and_askers(self):
        told, hall = played("takeover 0\nask 8 table t k", houses=1, askers=9)
        self.assertEqual(told, [True, ("waits", 0, 0)] if hall.house_of(8) == 0 else None)
        self.assertEqual(played("takeover 2\nletters", houses=5)[0][1], [("ask", 2, to, 1) for to in (0, 1, 3, 4)])
        hall = played("")[1]
        self.assertEqual((played("")[0], hall.house_of(3), hall.known(2)), ([], 0, (0, 0, 0, 0)))
        for number in (3, 4):
            with self.assertRaises(BadNumber):
                (hall.known if number == 3 else hall.house_of)(number)
        for houses, askers in ((0, 1), (6, 1), (1, 0), (1, 10)):
            with self.assertRaises(BadNumber):
                played("", houses=houses, askers=askers)

    def test_refusals(self):
        for day in ("known 3", "ask 4 begin", "found 0", "shown 0", "turn 0 3", "rise 3 0", "arm 3 0", "takeover 3"):
            with self.assertRaises(BadNumber):
                played(day)
        with self.assertRaises(BadText) as caught:
            played("takeover 0\nknown 9\ncome")
        self.assertEqual(caught.exception.place, 2)

    def test_the_same_day_tells_the_same(self):
        text = "\n".join(row for row, _ in self.DAY)
        self.assertEqual(played(text)[0], played(text)[0])


if __name__ == "__main__":
    unittest.main()
