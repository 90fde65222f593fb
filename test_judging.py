"""Judges: promise 15."""

import copy
import itertools
import random
import unittest

from granary.errors import BadNumber, StoreError
from granary.judging import judged, order_of
from granary.plain import Plain, plain_of


def dealt(ticket, *pairs):
    """A dealing of texts and what they were told."""
    answers = [("refused", told) if isinstance(told, str) else ("told", told) for _, told in pairs]
    return ([text for text, _ in pairs], answers, ticket)


def histories():
    return [
        [dealt(0, ("table t k a", 0)), dealt(3, ("begin", 0), ("put t 1 5", 1), ("put t 1 6", "Twice"), ("done", 0))],
        [dealt(4, ("pick k, a from t", [(1, 5)])), dealt(1, ("strike t", 1))],
        [],
        [dealt(2, ("count from t", 0))],
    ]


class Judged(unittest.TestCase):
    def test_what_a_plain_store_tells(self):
        for tickets in ([0, 3, 4, 1, 2], [0, 2, 3, 4, 1], [0, 3, 4], [0, 3], [0], [], [0, 2, 3], [0, 3, 1, 2]):
            self.assertIsNone(judged(histories(), tickets), tickets)
        self.assertIsNone(judged([], []))
        self.assertIsNone(judged(histories(), (0, 3)))

    def test_one_that_is_told_otherwise(self):
        for tickets, found in (
            ([3], (0, 1)), ([4], (1, 0)), ([0, 4, 3], (1, 0)), ([0, 3, 2], (3, 0)), ([0, 3, 2, 1], (3, 0)),
            ([2, 0], (3, 0)), ([0, 1], (1, 1)), ([0, 3, 1, 4], (1, 0)),
        ):
            self.assertEqual(judged(histories(), tickets), found, tickets)

    def test_each_answer_counts(self):
        for asker, number, at, answer in (
            (0, 0, 0, ("told", 1)), (0, 1, 0, ("told", 1)), (0, 1, 1, ("refused", "Twice")), (0, 1, 2, ("told", 1)),
            (0, 1, 2, ("refused", "BadRow")), (0, 1, 3, ("refused", "Within")), (1, 0, 0, ("told", [(1, 6)])),
            (1, 0, 0, ("told", [])), (1, 1, 0, ("told", 2)),
        ):
            told = histories()
            told[asker][number][1][at] = answer
            self.assertEqual(judged(told, [0, 3, 4, 1, 2]), (asker, number))

    def test_one_answer_too_few_or_too_many(self):
        told = histories()
        told[0][1][1].pop()
        self.assertEqual(judged(told, [0, 3]), (0, 1))
        told = histories()
        told[3][0][1].append(("told", 0))
        self.assertEqual(judged(told, [0, 2]), (3, 0))

    def test_one_that_is_told_again(self):
        self.assertEqual(judged(histories(), [0, 2, 2]), (3, 0))
        self.assertEqual(judged(histories(), [0, 2, 0]), (0, 0))
        self.assertEqual(judged(histories(), [0, 2, 3, 2]), (3, 0))

    def test_one_behind_a_later_one_of_its_asker(self):
        told = [[dealt(7, ("table t k", 0)), dealt(5, ("count from t", 0)), dealt(9, ("count from t", 0))],
                [dealt(6, ("count from t", 0))]]
        self.assertIsNone(judged(told, [7, 5, 6, 9]))
        self.assertEqual(judged(told, [7, 9, 6, 5]), (0, 1))
        self.assertEqual(judged(told, [7, 9, 5, 6]), (0, 1))
        self.assertIsNone(judged(told, [7, 6, 9]))

    def test_the_first_of_several(self):
        told = histories()
        told[1][0][1][0] = ("told", 9)
        told[3][0][1][0] = ("told", 9)
        self.assertEqual(judged(told, [0, 3, 4, 1, 2]), (1, 0))
        self.assertEqual(judged(told, [0, 2, 3, 4, 1]), (3, 0))

    def test_a_ticket_that_there_is_not(self):
        for tickets in ([5], [-1], [0, 3, 4, 1, 2, 5], [0, 0, 5], [4, 5]):
            with self.assertRaises(BadNumber) as caught:
                judged(histories(), tickets)
            self.assertIsInstance(caught.exception, StoreError)
        with self.assertRaises(BadNumber):
            judged([], [0])

    def test_nothing_that_is_handed_in_is_changed(self):
        told, tickets = histories(), [0, 3, 4, 1, 2]
        before = copy.deepcopy((told, tickets))
        judged(told, tickets)
        order_of(told)
        self.assertEqual((told, tickets), before)
        self.assertIsNone(judged(told, tickets))


class Order(unittest.TestCase):
    def test_none_and_one(self):
        self.assertEqual(order_of([]), [])
        self.assertEqual(order_of([[], []]), [])
        self.assertEqual(order_of([[dealt(0, ("table t k", 0))]]), [(0, 0)])
        self.assertEqual(order_of([[], [dealt(0, ("table t k", 0))]]), [(1, 0)])
        self.assertIsNone(order_of([[dealt(0, ("table t k", 1))]]))
        self.assertIsNone(order_of([[], [dealt(0, ("count from t", 0))]]))

    def test_several(self):
        self.assertEqual(order_of(histories()), [(0, 0), (0, 1), (1, 0), (1, 1), (3, 0)])

    def test_the_first_of_several_orders(self):
        told = [[dealt(0, ("count from t", 0))], [dealt(1, ("table t k", 0)), dealt(2, ("count from t", 0))],
                [dealt(3, ("count from t", 0))]]
        self.assertEqual(order_of(told), [(1, 0), (0, 0), (1, 1), (2, 0)])

    def test_each_asker_s_in_their_turn(self):
        self.assertIsNone(order_of([[dealt(1, ("count from t", 0)), dealt(0, ("table t k", 0))]]))
        told = [[dealt(0, ("table t k", 0)), dealt(1, ("count from t", 1))], [dealt(2, ("put t 1", 1))]]
        self.assertEqual(order_of(told), [(0, 0), (1, 0), (0, 1)])

    def test_no_order_does(self):
        told = [[dealt(0, ("table t k", 0)), dealt(1, ("count from t", 2))], [dealt(2, ("put t 1", 1))]]
        self.assertIsNone(order_of(told))

    def test_seven_and_more(self):
        told = [[dealt(at, ("count from t", "BadName"))] for at in range(7)]
        self.assertEqual(order_of(told), [(at, 0) for at in range(7)])
        self.assertIsNone(order_of([[dealt(at, ("count from t", 1))] for at in range(7)]))
        for many in (8, 12):
            with self.assertRaises(BadNumber) as caught:
                order_of([[dealt(at, ("count from t", 1)) for at in range(many - 3)], [dealt(99, ("begin", 0))] * 3])
            self.assertIsInstance(caught.exception, StoreError)

    def test_against_all_orders(self):
        texts = ("put t 1", "put t 2", "strike t", "count from t", "strike t where k = 1", "table t k")
        for seed in range(60):
            source = random.Random(seed)
            told = [[], [], []]
            plain = Plain()
            plain.tell("table t k") if seed % 2 else None
            for ticket in range(source.randint(1, 6)):
                text = source.choice(texts)
                answer = plain.tell(text) if source.random() < 0.9 else ("told", 0)
                source.choice(told).append(([text], [answer], ticket))
            if seed % 2:
                told[0].insert(0, (["table t k"], [("told", 0)], 50))
            self.assertEqual(order_of(told), self.expected(told))

    def expected(self, told):
        """Looks through all orders, rising."""
        names = [(asker, number) for asker, dealings in enumerate(told) for number in range(len(dealings))]
        for order in itertools.permutations(names):
            kept = all([one for one in order if one[0] == asker] == [one for one in names if one[0] == asker]
                       for asker in range(len(told)))
            if kept:
                texts = [text for asker, number in order for text in told[asker][number][0]]
                if plain_of(texts)[0] == [answer for asker, number in order for answer in told[asker][number][1]]:
                    return list(order)
        return None


if __name__ == "__main__":
    unittest.main()
