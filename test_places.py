"""BadText and its place: promises 2 and 3."""

import random
import string
import unittest

from granary.errors import BadText, StoreError
from granary.texts import read, written
from reference import KEPT_WORDS, Maker, place_of, words_of

# Each kind of statement, each part that may lack told and left out.
GOOD = (
    "table t a",
    "table t a b c d",
    "index t a",
    "put t 1",
    "put t 1 -2 30 999999",
    "set t a = 1",
    "set t a = b + 1, b = - 2 * c, c = (a - t . b) where not a = 1 and (b < 2 or (c) >= 3)",
    "strike t",
    "strike t where (a = 1 or ((b) * 2) <= -3) and not not c > 4",
    "pick a from t",
    "pick a, b - 1, c * (d), -1, (1), t.a from t and u and v where a = 1 by a, b.c, -1 * 2 first 10",
    "pick a from t by a",
    "pick a from t where a = 1 first 0",
    "pick a from t first 999999",
    "count from t",
    "count from t and u where a < 1 or b < 2 and c < 3",
    "sum a * 2 from t",
    "least a from t and u",
    "most (a + b) * c from t where not (a = 1)",
    "begin",
    "done",
    "undo",
)
OTHERS = KEPT_WORDS + [
    "a", "t", "abcdefgh", "abcdefghi", "0", "1", "999999", "1000000", "00", "01",
    "(", ")", "+", "-", "*", "=", "<", ">", "<=", ">=", ",", ".", "/", "!", "A", "%", "_", '"', "~",
]


def place(text):
    """The place that is refused; None of a good text."""
    try:
        read(text)
    except BadText as error:
        return error.place
    return None


class Places(unittest.TestCase):
    def told(self, *pairs):
        for text, number in pairs:
            with self.subTest(text):
                self.assertEqual(place(text), number)

    def test_empty_text(self):
        self.told(("", 0), (" ", 0), ("     ", 0))

    def test_first_word(self):
        self.told(
            ("tables t a", 0), ("where", 0), ("t", 0), ("1", 0), ("-", 0), ("Begin", 0), ("BEGIN", 0), ("from t", 0),
            ("(begin)", 0), ("and", 0), (".", 0), ("read", 0),
        )

    def test_more_must_come(self):
        self.told(
            ("table", 1), ("table t", 2), ("index t", 2), ("put t", 2), ("put t 1 -", 4), ("set t", 2), ("set t a", 3),
            ("set t a =", 4), ("set t a = 1,", 6), ("set t a = 1 where", 6), ("strike", 1), ("strike t where", 3),
            ("strike t where a", 4), ("strike t where a =", 5), ("strike t where (a = 1", 7), ("strike t where not", 4),
            ("strike t where a = 1 and", 7), ("strike t where a = 1 or", 7), ("strike t where (a)", 6),
            ("pick", 1), ("pick a", 2), ("pick a,", 3), ("pick a from", 3), ("pick a from t and", 5),
            ("pick a from t by", 5), ("pick a from t first", 5), ("pick t.", 3), ("pick (", 2), ("pick (a", 3),
            ("pick a + ", 3), ("pick a *", 3), ("pick -", 2), ("count", 1), ("count from", 2), ("sum", 1), ("sum a", 2),
        )

    def test_words_behind_the_end(self):
        self.told(
            ("begin a", 1), ("done done", 1), ("undo 1", 1), ("index t a b", 3), ("strike t a", 2),
            ("set t a = 1 b", 5), ("strike t where a = 1 b", 6), ("count from t u", 3), ("pick a from t first 1 2", 6),
            ("pick a from t first 1 by a", 6), ("strike t where (a = 1))", 8), ("pick a) from t", 2),
            ("table t a.", 3), ("put t 1,", 3),
        )

    def test_greatest_counts_and_one_more(self):
        self.told(
            ("table t a b c d", None), ("table t a b c d e", 6), ("index t a b", 3),
            ("put t 1 2 3 4", None), ("put t 1 2 3 4 5", 6), ("put t 1 2 3 4 -", 6), ("put t 1 2 3 -4 -5", 7),
            ("set t a = 1, b = 2, c = 3", None), ("set t a = 1, b = 2, c = 3, d = 4", 13),
            ("pick 1, 2, 3, 4, 5, 6 from t", None), ("pick 1, 2, 3, 4, 5, 6, 7 from t", 12),
            ("pick a from t and u and v", None), ("pick a from t and u and v and w", 8),
            ("count from t and u and v and w", 7),
            ("pick a from t by 1, 2, 3", None), ("pick a from t by 1, 2, 3, 4", 10),
            ("sum a, b from t", 2), ("least a, b from t", 2), ("most a, b from t", 2), ("count a from t", 1),
        )

    def test_parts_stand_in_their_order(self):
        self.told(
            ("pick a from t by a where a = 1", 6), ("pick a from t first 1 where a = 1", 6),
            ("pick a where a = 1 from t", 2), ("pick a from t where a = 1 where a = 1", 8),
            ("pick a from t by a by a", 6), ("pick a from t first 1 first 1", 6), ("from t pick a", 0),
            ("count from t by a", 3), ("sum a from t first 1", 4), ("least a from t by a", 4),
            ("most a from t first 1", 4),
            ("strike t by a", 2), ("set t where a = 1", 2), ("strike where a = 1", 1), ("set t a = 1 first 1", 5),
        )

    def test_names(self):
        self.told(
            ("table abcdefgh a", None), ("table abcdefghi a", 1), ("table t abcdefghi", 2), ("index t abcdefghi", 2),
            ("sum abcdefghi from t", 1), ("sum abcdefgh.abcdefghi from t", 3), ("sum abcdefghi.a from t", 1),
            ("count from abcdefghi", 2), ("set abcdefghi a = 1", 1), ("set t abcdefghi = 1", 2), ("put abcdefghi 1", 1),
            ("table T a", 1), ("table t A", 2), ("table tA a", 2), ("table t_a a", 2), ("table 1 a", 1),
            ("table t1 a", 2), ("put t-a 1", 3), ("set t t.a = 1", 3), ("set t (a) = 1", 2), ("sum t.a.b from t", 4),
            ("sum 1.a from t", 2), ("sum t.1 from t", 3), ("sum a b from t", 2),
        )

    def test_words_of_the_language_are_no_names(self):
        for word in KEPT_WORDS:
            self.told(
                (f"table {word} a", 1), (f"table t {word}", 2), (f"table t a {word}", 3), (f"index t {word}", 2),
                (f"put {word} 1", 1), (f"set t {word} = 1", 2), (f"strike {word}", 1), (f"count from {word}", 2),
                (f"sum {word} from t", 1), (f"sum t.{word} from t", 3), (f"sum {word}.a from t", 1),
            )

    def test_numbers(self):
        self.told(
            ("put t 0", None), ("put t 9", None), ("put t 999999", None), ("put t 1000000", 2), ("put t 00", 2),
            ("put t 01", 2), ("put t 000001", 2), ("put t 0000000", 2), ("put t -9", None), ("put t -999999", None),
            ("put t -1000000", 3), ("put t -0", 3), ("put t -00", 3), ("put t -01", 3), ("put t --1", 3),
            ("put t +1", 2), ("put t 1.5", 3), ("put t a", 2), ("put t (1)", 2), ("put t 1 + 2", 3), ("put t 1e5", 3),
            ("sum -0 from t", 2), ("sum 1 - 0 from t", None), ("sum 1 - -0 from t", 4), ("sum - -1 from t", 2),
            ("sum -a from t", 2), ("sum -(1) from t", 2), ("sum 1000000 from t", 1), ("sum 012 from t", 1),
            ("sum +1 from t", 1), ("sum 1 + +1 from t", 3),
            ("pick a from t first 0", None), ("pick a from t first 999999", None), ("pick a from t first 1000000", 5),
            ("pick a from t first -1", 5), ("pick a from t first 01", 5), ("pick a from t first a", 5),
            ("pick a from t first 1 + 1", 6),
        )

    def test_signs_of_no_language(self):
        for sign in "!\"#$%&'/:;?@[\\]^_`{|}~":
            self.told(
                (sign, 0), (f"begin{sign}", 1), (f"table t{sign}a", 2), (f"sum a {sign} b from t", 2),
                (f"strike t where a {sign} 1", 4), (f"put t {sign}1", 2), (f"{sign}begin", 0),
            )

    def test_signs_of_two(self):
        self.told(
            ("strike t where a < = 1", 5), ("strike t where a > = 1", 5), ("strike t where a =< 1", 5),
            ("strike t where a <> 1", 5), ("strike t where a == 1", 5), ("strike t where a <== 1", 5),
            ("strike t where a <=> 1", 5), ("strike t where a >> 1", 5), ("set t a <= 1", 3), ("set t a == 1", 4),
        )

    def test_terms_are_no_conditions(self):
        self.told(
            ("strike t where a", 4), ("strike t where a and b = 1", 4), ("strike t where (a) and b = 1", 6),
            ("strike t where (a and b = 1)", 5), ("strike t where (a or", 5), ("strike t where not a or b = 1", 5),
            ("strike t where a = 1 and b or c = 1", 8), ("strike t where (a + (b > 1))", 8),
            ("strike t where (a = 1) + 2 = 3", 8), ("strike t where (a = 1) = 2", 8), ("strike t where a = 1 = 2", 6),
            ("strike t where a < 1 < 2", 6), ("strike t where ((a = 1) < 2", 9), ("strike t where a + not b = 1", 5),
            ("strike t where (not a = 1) * 2", 9), ("strike t where a = not b", 5), ("strike t where a = (b = 1)", 7),
            ("sum a = 1 from t", 2), ("sum (a = 1) from t", 3), ("sum not a from t", 1), ("sum a and b from t", 2),
            ("pick a from t by a = 1", 6), ("set t a = b = 1", 5), ("set t a = (b < 1)", 6),
            ("strike t where ()", 4), ("strike t where ) a = 1", 3), ("sum () from t", 2),
            ("strike t where (a = 1 b", 7),
            ("strike t where (a, b) = 1", 5), ("strike t where ((a) = 1", 9), ("strike t where a = 1)", 6),
        )


class Depths(unittest.TestCase):
    def test_one_bracket_more_in_terms(self):
        self.assertIsNone(place("sum " + "(" * 20 + "a" + ")" * 20 + " from t"))
        self.assertEqual(place("sum " + "(" * 21 + "a" + ")" * 21 + " from t"), 21)
        self.assertEqual(place("sum a + " + "(" * 25), 23)
        self.assertEqual(place("sum " + "(a + " * 20 + "(b" + ")" * 21 + " from t"), 61)

    def test_one_bracket_more_in_conditions(self):
        self.assertEqual(place("strike t where " + "(" * 21 + "a = 1" + ")" * 21), 23)
        self.assertEqual(place("strike t where " + "(" * 21 + "a" + ")" * 21 + " = 1"), 23)
        self.assertEqual(place("strike t where " + "(" * 20 + "a = (1)" + ")" * 20), 25)
        self.assertIsNone(place("strike t where " + "(" * 19 + "a = (1)" + ")" * 19))
        self.assertEqual(place("strike t where a = 1 or " + "(" * 300), 27)

    def test_one_not_more(self):
        self.assertIsNone(place("strike t where " + "not " * 20 + "a = 1"))
        self.assertEqual(place("strike t where " + "not " * 21 + "a = 1"), 23)
        self.assertEqual(place("strike t where " + "not " * 300), 23)

    def test_nots_and_brackets_count_together(self):
        self.assertIsNone(place("strike t where " + "not (" * 10 + "a = 1" + ")" * 10))
        self.assertEqual(place("strike t where " + "not (" * 10 + "not a = 1" + ")" * 10), 23)
        self.assertEqual(place("strike t where " + "not (" * 10 + "(a) = 1" + ")" * 10), 23)
        self.assertEqual(place("strike t where " + "not " * 20 + "a = (1)"), 25)
        self.assertEqual(place("strike t where " + "not " * 20 + "(a = 1)"), 23)

    def test_what_stands_beside_is_not_within(self):
        self.assertIsNone(place("strike t where " + "not " * 20 + "a = 1 and (b = 1)"))
        self.assertEqual(place("strike t where " + "not " * 20 + "a = 1 and " + "not " * 21), 47)
        self.assertIsNone(place("strike t where " + "(" * 20 + "a" + ")" * 20 + " = (1)"))


class EachPlace(unittest.TestCase):
    """Every good statement, changed at each place, against the grammar of reference.py."""

    def test_good_ones_are_good(self):
        for text in GOOD:
            self.assertIsNone(place(text), text)
            self.assertIsNone(place_of(text), text)

    def same(self, words):
        text = " ".join(words)
        self.assertEqual(place(text), place_of(text), text)

    def test_every_beginning(self):
        for text in GOOD:
            words = words_of(text)
            for many in range(len(words)):
                self.same(words[:many])
                told = place(" ".join(words[:many]))
                self.assertIn(told, (None, many))

    def test_a_word_left_out(self):
        for text in GOOD:
            words = words_of(text)
            for at in range(len(words)):
                self.same(words[:at] + words[at + 1:])

    def test_a_word_told_twice(self):
        for text in GOOD:
            words = words_of(text)
            for at in range(len(words)):
                self.same(words[:at + 1] + words[at:])

    def test_two_words_exchanged(self):
        for text in GOOD:
            words = words_of(text)
            for at in range(len(words) - 1):
                self.same(words[:at] + [words[at + 1], words[at]] + words[at + 2:])

    def test_another_word_instead(self):
        for text in GOOD:
            words = words_of(text)
            for at in range(len(words)):
                for word in OTHERS[at % 3::3]:
                    self.same(words[:at] + [word] + words[at + 1:])

    def test_a_word_put_in(self):
        for text in GOOD:
            words = words_of(text)
            for at in range(len(words) + 1):
                for word in OTHERS[at % 3::3]:
                    self.same(words[:at] + [word] + words[at:])

    def test_brackets_and_signs_in_any_turn(self):
        source = random.Random(72)
        for _ in range(2500):
            words = [source.choice("( ( ) ) not a 1 + = and or".split()) for _ in range(source.randint(1, 12))]
            self.same(["strike", "t", "where"] + words)

    def test_made_statements(self):
        maker = Maker(random.Random(73))
        for _ in range(60):
            words = words_of(written(maker.statement()))[:60]
            at = maker.source.randint(0, len(words) - 1)
            self.same(words[:at])
            self.same(words[:at] + words[at + 1:])
            self.same(words[:at] + [maker.source.choice(OTHERS)] + words[at:])


class Refusals(unittest.TestCase):
    def test_it_is_a_refusal_and_a_value_error(self):
        with self.assertRaises(StoreError):
            read("table")
        with self.assertRaises(ValueError):
            read("")

    def test_places_count_words_not_signs(self):
        self.assertEqual(place("strike   t   where   aaaa<=bbbb   )"), 6)
        self.assertEqual(place("put t12"), None)
        for letter in string.ascii_lowercase:
            self.assertEqual(place(f"put t12{letter}"), 3)
            self.assertEqual(place(f"put {letter}12{letter}3"), 3)
            self.assertEqual(place(f"table t {letter}"), None)
        self.assertEqual(place("a b"), 0)


if __name__ == "__main__":
    unittest.main()
