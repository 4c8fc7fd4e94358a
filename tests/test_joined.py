import copy
import itertools
import unittest

from commonhour.errors import BadWords, HourError, TooMany, Unlike
from commonhour.words import joined
from tests.samples import chances, distinct, pool, unlike_words, word_at, wrong_lists_of_words


class JoinedTest(unittest.TestCase):
    def test_empty_lists(self):
        self.assertEqual(joined([], []), [])
        self.assertEqual(joined(distinct(3), []), distinct(3))
        self.assertEqual(joined([], distinct(3)), distinct(3))

    def test_all_words_of_both_in_order(self):
        one = [(2, 0, 1, 1, "no"), (10, 0, 7, 0, "yes"), (1, 3, 0, 0, "maybe")]
        other = [(2, 1, 0, 0, "yes"), (9, 2, 5, 11, "no"), (1, 0, 7, 11, "yes")]
        told = [
            (1, 0, 7, 11, "yes"),
            (1, 3, 0, 0, "maybe"),
            (2, 0, 1, 1, "no"),
            (2, 1, 0, 0, "yes"),
            (9, 2, 5, 11, "no"),
            (10, 0, 7, 0, "yes"),
        ]
        self.assertEqual(joined(one, other), told)

    def test_bounds_of_each_place(self):
        low = (1, 0, 0, 0, "no")
        high = (99, 3, 7, 11, "yes")
        self.assertEqual(joined([high], [low]), [low, high])
        for place, worths in enumerate((range(1, 100), range(4), range(8), range(12))):
            for worth in worths:
                word = (*low[:place], worth, *low[place + 1:])
                self.assertEqual(joined([word], []), [word])
                self.assertEqual(joined([], [word]), [word])
        for answer in ("yes", "maybe", "no"):
            self.assertEqual(joined([], [(1, 0, 0, 0, answer)]), [(1, 0, 0, 0, answer)])

    def test_words_of_one_person_and_hour_all_stay(self):
        one = [(1, 0, 2, 3, "yes"), (2, 0, 2, 3, "no")]
        other = [(1, 1, 2, 3, "yes"), (3, 0, 2, 3, "yes")]
        self.assertEqual(joined(one, other), sorted(one + other))

    def test_alike_ones_are_one(self):
        words = distinct(3)
        self.assertEqual(joined(words + words, []), words)
        self.assertEqual(joined([], [*words, words[0], words[0]]), words)
        self.assertEqual(joined(words, words), words)
        self.assertEqual(joined(words + words, words + words), words)
        self.assertEqual(joined(words[:2], words[1:]), words)
        self.assertEqual(joined([words[0]] * 80, [words[0]] * 80), [words[0]])

    def test_same_in_whatever_turn(self):
        for chance in chances(60):
            words = pool(chance, chance.randrange(60))
            parts = [chance.choices(words, k=chance.randrange(30)) if words else [] for _ in range(3)]
            told = sorted({word for part in parts for word in part})
            for one, other, last in itertools.permutations(parts):
                self.assertEqual(joined(joined(one, other), last), told)
                self.assertEqual(joined(one, joined(other, last)), told)
            self.assertEqual(joined(told, told), told)
            self.assertEqual(joined(told[::-1], parts[0]), told)
            self.assertEqual(joined(parts[0], joined(told, parts[0])), told)

    def test_unlike_ones_in_one_list_in_the_other_and_between(self):
        for one, other in unlike_words():
            for left, right in ((one, other), (other, one)):
                rest = distinct(10, 40)
                for words, more in (
                    ([left, right], []),
                    ([left, *rest, right], rest),
                    ([], [left, right]),
                    (rest, [left, *rest, right]),
                    ([left], [right]),
                    ([*rest, left], [right, *rest]),
                    ([left, left], [*rest, right]),
                ):
                    with self.subTest(words=words, more=more), self.assertRaises(Unlike):
                        joined(words, more)

    def test_one_count_of_two_hands_and_two_counts_of_one_hand_are_joined(self):
        one, hand, count = (5, 2, 3, 4, "yes"), (5, 3, 3, 4, "no"), (6, 2, 3, 4, "no")
        self.assertEqual(joined([count, one], [hand]), [one, hand, count])
        # Two pairs of which the count of one is the hand of the other.
        self.assertEqual(joined([(2, 1, 0, 0, "yes")], [(1, 2, 0, 0, "no")]),
                         [(1, 2, 0, 0, "no"), (2, 1, 0, 0, "yes")])

    def test_eighty_go_and_eighty_one_are_too_many(self):
        words = distinct(160)
        self.assertEqual(joined(words[:80], []), words[:80])
        self.assertEqual(joined([], words[:80]), words[:80])
        self.assertEqual(joined(words[40:80], words[:40]), words[:80])
        self.assertEqual(joined(words[:80], words[:80]), words[:80])
        self.assertEqual(joined(words[:80], words[30:80]), words[:80])
        self.assertEqual(joined(words[:41] + words[:39], words[40:80] + words[40:80]), words[:80])
        for one, other in (
            (words[:80], words[80:81]),
            (words[:1], words[1:81]),
            (words[:41], words[41:81]),
            (words[:80], words[1:81]),
            (words[:80], words[80:]),
        ):
            with self.assertRaises(TooMany):
                joined(one, other)

    def test_more_than_eighty_in_one_list_are_no_words(self):
        for words in (distinct(81), distinct(40) + distinct(41), [word_at(0)] * 81):
            with self.assertRaises(BadWords):
                joined(words, [])
            with self.assertRaises(BadWords):
                joined([], words)

    def test_wrong_lists_are_no_words(self):
        for words in wrong_lists_of_words():
            for one, other in ((words, []), ([], words), (words, words), (distinct(5, 200), words)):
                with self.assertRaises(BadWords) as caught:
                    joined(one, other)
                self.assertIsInstance(caught.exception, HourError)
                self.assertIsInstance(caught.exception, ValueError)

    def test_the_refusal_told_first_goes_first(self):
        left, right = unlike_words()[0]
        unlike, wrong = [left, right], [None]
        many = distinct(80, 100)
        for one, other, refusal in (
            ([left, right, None], [], BadWords),
            ([left, right, *distinct(79, 100)], [], BadWords),
            ([], [left, right, None], BadWords),
            (unlike, wrong, Unlike),
            (wrong, unlike, BadWords),
            (many[:1] * 81, unlike, BadWords),
            (unlike, many[:1] * 81, Unlike),
            ([left], [right, None], BadWords),
            ([left, None], [right], BadWords),
            ([left], [right, *many], BadWords),
            ([left, *many[:79]], [right, *many[:79]], Unlike),
            ([left, *many[:40]], [right, *many[40:]], Unlike),
            (many, unlike, Unlike),
            (unlike, many, Unlike),
            (many, [*unlike, None], BadWords),
        ):
            with self.subTest(one=one, other=other), self.assertRaises(refusal) as caught:
                joined(one, other)
            self.assertIs(caught.exception.__class__, refusal)

    def test_what_is_handed_in_stays(self):
        for one, other in (
            (distinct(5)[::-1], distinct(5, 3)[::-1]),
            (distinct(3) + distinct(3), []),
            ([unlike_words()[0][0]], [unlike_words()[0][1]]),
            (distinct(80)[::-1], distinct(80, 100)[::-1]),
        ):
            before = copy.deepcopy((one, other))
            try:
                joined(one, other)
            except HourError:
                pass
            self.assertEqual((one, other), before)

    def test_what_is_told_is_new(self):
        one, other = distinct(5), distinct(5, 10)
        told = joined(one, other)
        self.assertIs(told.__class__, list)
        for word in told:
            self.assertIs(word.__class__, tuple)
        wanted = list(told)
        one.clear()
        other.append((99, 3, 7, 11, "no"))
        self.assertEqual(told, wanted)
        for words, more in ((distinct(5), []), ([], distinct(5)), (distinct(5), distinct(5))):
            told = joined(words, more)
            told.clear()
            self.assertEqual(joined(words, more), distinct(5))
        empty = []
        joined(empty, empty).append(1)
        self.assertEqual(joined(empty, empty), [])

    def test_one_list_handed_in_twice(self):
        words = distinct(4)[::-1]
        self.assertEqual(joined(words, words), distinct(4))
