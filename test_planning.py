"""Plans as texts: promise 23."""

import copy
import random
import re
import unittest

import worlds
from granary.errors import BadText, StoreError
from granary.plans import all_plans
from granary.planning import plan_text, read_plan
from granary.texts import read

KEPT_WORDS = (
    "table index put set where strike pick from and by first count sum least most begin done undo not or"
).split()


def field(name):
    table, _, own = name.rpartition(".")
    return ("field", table, own)


NUMBER = ("num", 3)
TERM = ("*", field("t.a"), ("-", field("u.b"), NUMBER))
TEXTS = (
    ("from t", (("all", "t"),)),
    ("not from t", (("none", "t"),)),
    ("from t least 5", (("key", "t", 5, None),)),
    ("from t most 5", (("key", "t", None, 5),)),
    ("from t least 5 most 9", (("key", "t", 5, 9),)),
    ("from t least -9 most -5", (("key", "t", -9, -5),)),
    ("from t least 0 most 0", (("key", "t", 0, 0),)),
    ("from t by a least 5", (("by", "t", "a", 5, None),)),
    ("from t by a most -5", (("by", "t", "a", None, -5),)),
    ("from t by a least 5 most 9", (("by", "t", "a", 5, 9),)),
    ("from u, from t first u.a", (("all", "u"), ("keyof", "t", field("u.a")))),
    ("from u, from t by c first u.a", (("all", "u"), ("byof", "t", "c", field("u.a")))),
    ("from v first t.a * (u.b - 3)", (("keyof", "v", TERM),)),
    ("from v by c first t.a * (u.b - 3)", (("byof", "v", "c", TERM),)),
    ("from v first t.a + u.b - 3", (("keyof", "v", ("-", ("+", field("t.a"), field("u.b")), NUMBER)),)),
    ("from v first t.a - (u.b - 3)", (("keyof", "v", ("-", field("t.a"), ("-", field("u.b"), NUMBER))),)),
    ("from v first t.a * -3", (("keyof", "v", ("*", field("t.a"), ("num", -3))),)),
    ("from t, from u, from v", (("all", "t"), ("all", "u"), ("all", "v"))),
    ("not from t, not from u", (("none", "t"), ("none", "u"))),
    ("from t least 5, not from u, from v by c first t.a", (
        ("key", "t", 5, None), ("none", "u"), ("byof", "v", "c", field("t.a")),
    )),
    ("from t by a most 5, from u first t.b + 1, from v most 3", (
        ("by", "t", "a", None, 5), ("keyof", "u", ("+", field("t.b"), ("num", 1))), ("key", "v", None, 3),
    )),
)


class Texts(unittest.TestCase):
    def test_each_kind_of_way(self):
        for text, plan in TEXTS:
            self.assertEqual(plan_text(plan), text)
            self.assertEqual(read_plan(text), plan)

    def test_blanks_may_stand_between_and_lack(self):
        self.assertEqual(read_plan("  from t,from u  ,  not   from v "), (("all", "t"), ("all", "u"), ("none", "v")))
        self.assertEqual(read_plan("from t least-5most 3"), (("key", "t", -5, 3),))
        term = ("*", field("u.b"), ("num", 2))
        self.assertEqual(read_plan("from t by a first(u . b)*2"), (("byof", "t", "a", term),))

    def test_a_field_without_its_table(self):
        self.assertEqual(read_plan("from t first a + 1"), (("keyof", "t", ("+", field("a"), ("num", 1))),))

    def test_names_at_their_ends(self):
        self.assertEqual(read_plan("from a by b least 1"), (("by", "a", "b", 1, None),))
        self.assertEqual(read_plan("from abcdefgh by zyxwvuts most 1"), (("by", "abcdefgh", "zyxwvuts", None, 1),))
        self.assertEqual(read_plan("from firsts by leasts first froms.nots"),
                         (("byof", "firsts", "leasts", field("froms.nots")),))

    def test_numbers_at_their_ends(self):
        self.assertEqual(read_plan("from t least -999999 most 999999"), (("key", "t", -999999, 999999),))
        self.assertEqual(read_plan("from t by a least 999999"), (("by", "t", "a", 999999, None),))
        self.assertEqual(read_plan("from t first -999999"), (("keyof", "t", ("num", -999999)),))

    def test_the_ends_that_comparisons_with_the_last_numbers_leave(self):
        shapes = {"t": ("k", "a")}
        for text in ("t.k > 999999", "t.k < -999999", "t.a > 999999 and t.k < -999999", "t.a < -999999"):
            for plan in all_plans(("t",), read("count from t where " + text)[4], shapes, [("t", "a")]):
                self.assertEqual(read_plan(plan_text(plan)), plan)
        self.assertEqual(read_plan("from t least 1000000"), (("key", "t", 1000000, None),))
        self.assertEqual(read_plan("from t by a most -1000000"), (("by", "t", "a", None, -1000000),))

    def test_all_plans_of_questions(self):
        asker = worlds.Asker(random.Random(23))
        kinds = set()
        for _ in range(400):
            shapes, _, indexes = asker.world()
            _, _, _, tables, cond, _, _ = asker.question(shapes)
            for plan in all_plans(tables, cond, shapes, indexes)[:40]:
                kinds.update(way[0] for way in plan)
                text = plan_text(plan)
                self.assertEqual(read_plan(text), plan, text)
                self.assertEqual(plan_text(read_plan(text)), text)
        self.assertEqual(kinds, {"all", "none", "key", "by", "keyof", "byof"})

    def test_long_terms(self):
        text = "from u, from t first u.a" + " + u.a * 2" * 3000
        self.assertEqual(plan_text(read_plan(text)), text)

    def test_what_is_handed_in_stays(self):
        plan = TEXTS[-1][1]
        before = copy.deepcopy(plan)
        plan_text(plan)
        self.assertEqual(plan, before)
        self.assertEqual(read_plan(TEXTS[-1][0]), read_plan(TEXTS[-1][0]))


# The grammar of a plan as patterns over its words, one letter for each, but terms of one field or number alone.
LETTERS = {"from": "F", "not": "N", "by": "B", "least": "L", "most": "M", "first": "I", ",": ",", "-": "-"}
END = "-?0"
ENDS = f"(?:L{END}(?:M{END})?|M{END})"
WAY = f"(?:NFa|Fa(?:{ENDS})?|FaB(?:a)(?:{ENDS}|I{END}|Ia)|FaI{END}|FaIa)"
PLAN = re.compile(f"{WAY}(?:,{WAY}){{0,2}}")
SIGNS = "FNBLMI,-a0"


def letters(words):
    return "".join(LETTERS.get(word, "0" if word.isdigit() else "a") for word in words)


def may_begin(text, more):
    """Whether letters begin a plan, with at most so many letters more."""
    if PLAN.fullmatch(text):
        return True
    return more > 0 and any(may_begin(text + sign, more - 1) for sign in SIGNS)


class Refused(unittest.TestCase):
    def place(self, text):
        with self.assertRaises(BadText) as caught:
            read_plan(text)
        self.assertIsInstance(caught.exception, StoreError)
        return caught.exception.place

    def at(self, *pairs):
        for text, place in pairs:
            self.assertEqual(self.place(text), place, text)

    def test_the_empty_text(self):
        self.at(("", 0), ("   ", 0))

    def test_words_left_out(self):
        self.at(
            ("from", 1), ("not", 1), ("not from", 2), ("t", 0), ("not t", 1), ("from least 5", 1), ("from t least", 3),
            ("from t most", 3), ("from t least most 5", 3), ("from t by", 3), ("from t by a", 4),
            ("from t by least 5", 3), ("from t by a least", 5), ("from t 5", 2), ("from t first", 3),
            ("from t by a first", 5), ("from t by first a", 3),
            ("from t from u", 2), ("from t,", 3), ("from t, u", 3), (", from t", 0), ("from t least 5 most", 5),
            ("from t least -", 4), ("from t first (u.a", 7), ("from t first u.", 5), ("from t first u.a +", 7),
            ("from , from t", 1), ("from t by a, from u", 4), ("from t least, from u", 3),
        )

    def test_words_doubled_put_in_and_exchanged(self):
        self.at(
            ("from from t", 1), ("not not from t", 1), ("from t t", 2), ("from t least least 5", 3),
            ("from t least 5 5", 4), ("from t least 5 least 6", 4), ("from t most 5 least 4", 4),
            ("from t most 5 most 6", 4),
            ("from t by by a", 3), ("from t by a a", 4), ("from t by a by b least 1", 4), ("from t,, from u", 3),
            ("from t first first u.a", 3), ("from t first u.a u.b", 6), ("from t first u.a least 5", 6),
            ("from t least 5 first u.a", 4), ("from t by a least 5 first u.a", 6), ("from t least 5 by a", 4),
            ("from not t", 1), ("not from t least 5", 3), ("not from t by a", 3), ("not from t first u.a", 3),
            ("from t least a", 3), ("from t least 1 + 2", 4), ("from t least (1)", 3), ("from t first u.a = 1", 6),
            ("from t first not u.a", 3), ("from t where t.a = 1", 2), ("from t.a", 2), ("from t and from u", 2),
            ("by a from t", 0), ("least 5 from t", 0), ("from t; from u", 2), ("from t all", 2), ("pick a from t", 0),
        )

    def test_words_behind_the_end(self):
        self.at(("from t, from u, from v,", 8), ("from t, from u, from v, from w", 8), ("from t, from u, from v w", 8),
                ("not from t 1", 3), ("from t first u.a)", 6))

    def test_names_and_numbers_beyond_their_ends(self):
        self.at(
            ("from abcdefghi", 1), ("from t by abcdefghi least 1", 3), ("from T", 1), ("from t1", 2), ("from 1", 1),
            ("from t least 1000001", 3), ("from t least 1234567", 3), ("from t least -1000000", 4),
            ("from t most 1000000", 3), ("from t most -1000001", 4), ("from t by a most 1000000", 5),
            ("from t least 10000000", 3), ("from t first 1000000", 3), ("from t first -1000000", 4),
            ("from t least 01", 3), ("from t least -0", 4), ("from t most -01", 4), ("from t most 00", 3),
            ("from t least --5", 4), ("from t least +5", 3), ("from t first u.abcdefghi", 5), ("from t first u.1", 5),
        )
        for word in KEPT_WORDS:
            self.at((f"from {word}", 1), (f"not from {word}", 2), (f"from t by {word} least 1", 3),
                    (f"from t first u.{word}", 5))
            if word != "not":
                self.at((f"from t first {word}", 3))

    def test_brackets_within_one_another(self):
        self.assertEqual(read_plan("from t first " + "(" * 20 + "u.a" + ")" * 20), (("keyof", "t", field("u.a")),))
        self.at(("from t first " + "(" * 21 + "u.a" + ")" * 21, 23))

    def test_all_short_texts(self):
        samples = {"a": "t", "0": "7", **{letter: word for word, letter in LETTERS.items()}}
        starts = [""]
        for length in range(5):
            longer = []
            for start in starts:
                words = [samples[letter] for letter in start]
                text = " ".join(words)
                if PLAN.fullmatch(start):
                    read_plan(text)
                else:
                    self.at((text, length))
                for sign in SIGNS:
                    told = start + sign
                    # A term goes on by signs that the patterns don't have.
                    if "I" in start and sign == "-" and start[-1] in "a0":
                        continue
                    if may_begin(told, 3 if length < 4 else 4):
                        longer.append(told)
                    else:
                        self.at((" ".join([*words, samples[sign]]), length))
            starts = longer

    def test_a_refusal_changes_nothing(self):
        self.place("from t by a")
        self.assertEqual(read_plan("from t"), (("all", "t"),))


if __name__ == "__main__":
    unittest.main()
