import copy
import unittest

from commonhour.errors import BadMeeting, BadWords, HourError, Unlike
from commonhour.words import hours, hours_maybe, joined
from tests.own_sums import hours_one_by_one
from tests.samples import (
    ANSWERS, chances, distinct, made_up_meeting, pool, unlike_words, word_at, wrong_lists_of_words,
    wrong_meetings,
)

ASKED = (hours, hours_maybe)
ALL_HOURS = list(range(12))


def maybes_made_yes(words):
    return [(*word[:4], "yes" if word[4] == "maybe" else word[4]) for word in words]


class HoursTest(unittest.TestCase):
    def test_no_words_say_no(self):
        for many in range(1, 9):
            for needed in ((), tuple(range(many))):
                for asked in ASKED:
                    self.assertEqual(asked([], (tuple(range(many)), 1, needed)), [])

    def test_each_hour_and_each_person_alone(self):
        for person in range(8):
            for hour in range(12):
                words = [(1, 0, person, hour, "yes")]
                for asked in ASKED:
                    self.assertEqual(asked(words, ((person,), 1, ())), [hour])
                    self.assertEqual(asked(words, ((person,), 1, (person,))), [hour])
                    self.assertEqual(asked(words, (((person + 1) % 8,), 1, ())), [])

    def test_hours_rise(self):
        words = [word_at(hour, 2, 11 - hour) for hour in range(12)]
        for asked in ASKED:
            self.assertEqual(asked(words, ((2,), 1, ())), ALL_HOURS)
            self.assertEqual(asked(words[::-1], ((2,), 1, (2,))), ALL_HOURS)
            self.assertEqual(asked(words[::3] + words[1::3], ((2,), 1, ())),
                             sorted(11 - k for k in range(12) if k % 3 < 2))

    def test_enough_of_them(self):
        for many in range(1, 9):
            people = tuple(range(8 - many, 8))
            # At hour h the first h of them say yes, so the numbers tell the hours.
            words = [
                word_at(8 * hour + at, person, hour)
                for hour in range(9) for at, person in enumerate(people[:hour])
            ]
            for enough in range(1, many + 1):
                for asked in ASKED:
                    self.assertEqual(asked(words, (people, enough, ())), list(range(enough, 9)))

    def test_needed_ones(self):
        people = (0, 2, 4, 6)
        words = [(1, 0, 0, 3, "yes"), (2, 0, 2, 3, "yes"), (3, 0, 4, 3, "yes"), (4, 0, 6, 3, "no")]
        for needed, told in (
            ((), [3]), ((0,), [3]), ((4,), [3]), ((0, 2, 4), [3]),
            ((6,), []), ((0, 6), []), ((0, 2, 4, 6), []),
        ):
            for asked in ASKED:
                with self.subTest(needed=needed):
                    self.assertEqual(asked(words, (people, 1, needed)), told)
                    self.assertEqual(asked(words, (people, 3, needed)), told)
                    self.assertEqual(asked(words, (people, 4, needed)), [])

    def test_all_needed_ones_come_and_enough_do_not(self):
        words = [(1, 0, 0, 3, "yes"), (2, 0, 2, 3, "yes")]
        for asked in ASKED:
            self.assertEqual(asked(words, ((0, 2, 4), 2, (0, 2))), [3])
            self.assertEqual(asked(words, ((0, 2, 4), 3, (0, 2))), [])
            self.assertEqual(asked(words, ((0, 2, 4), 1, (0, 2, 4))), [])

    def test_people_outside_the_meeting_do_not_count(self):
        words = [word_at(person, person, 5) for person in (0, 1, 3, 5, 7)]
        for asked in ASKED:
            self.assertEqual(asked(words, ((0, 2, 4), 1, ())), [5])
            self.assertEqual(asked(words, ((0, 2, 4), 2, ())), [])
            self.assertEqual(asked(words, ((2, 4, 6), 1, ())), [])
        noes = [*words, *(word_at(100 + person, person, 5, "no") for person in (1, 3, 5, 7))]
        self.assertEqual(hours(noes, ((0,), 1, (0,))), [5])

    def test_the_greatest_count_counts(self):
        meeting = ((4,), 1, ())
        for last, told in (("yes", [7]), ("maybe", []), ("no", [])):
            for first in ANSWERS:
                # Counts are numbers: ten is more than nine, and the turn is free.
                words = [(9, 3, 4, 7, first), (10, 0, 4, 7, last)]
                self.assertEqual(hours(words, meeting), told)
                self.assertEqual(hours(words[::-1], meeting), told)
                self.assertEqual(hours_maybe(words, meeting), [] if last == "no" else [7])
                self.assertEqual(hours_maybe(words[::-1], meeting), [] if last == "no" else [7])

    def test_of_equal_counts_the_greatest_hand_counts(self):
        meeting = ((4,), 1, ())
        for low, high in ((0, 1), (1, 2), (0, 3), (2, 3)):
            for first in ANSWERS:
                for last in ANSWERS:
                    words = [(9, low, 4, 7, first), (9, high, 4, 7, last)]
                    for turned in (words, words[::-1]):
                        self.assertEqual(hours(turned, meeting), [7] if last == "yes" else [])
                        self.assertEqual(hours_maybe(turned, meeting), [] if last == "no" else [7])

    def test_words_for_other_hours_and_of_others_do_not_take_one_back(self):
        words = [(1, 0, 4, 7, "yes"), (2, 0, 4, 8, "no"), (3, 0, 5, 7, "no")]
        for asked in ASKED:
            self.assertEqual(asked(words, ((4, 5), 1, (4,))), [7])

    def test_a_maybe_is_made_a_yes(self):
        words = [
            (1, 0, 1, 2, "maybe"), (2, 0, 3, 2, "yes"),
            (3, 0, 1, 4, "yes"), (4, 0, 3, 4, "yes"),
            (5, 0, 1, 6, "maybe"), (6, 0, 3, 6, "no"),
            (7, 0, 1, 8, "maybe"), (8, 0, 3, 8, "maybe"),
        ]
        for meeting, told, could in (
            (((1, 3), 2, ()), [4], [2, 4, 8]),
            (((1, 3), 1, ()), [2, 4], [2, 4, 6, 8]),
            (((1, 3), 1, (1,)), [4], [2, 4, 6, 8]),
            (((1, 3), 1, (3,)), [2, 4], [2, 4, 8]),
            (((1, 3), 1, (1, 3)), [4], [2, 4, 8]),
        ):
            with self.subTest(meeting=meeting):
                self.assertEqual(hours(words, meeting), told)
                self.assertEqual(hours_maybe(words, meeting), could)

    def test_a_maybe_that_does_not_count_is_no_yes(self):
        words = [(1, 0, 1, 2, "maybe"), (2, 0, 1, 2, "no")]
        self.assertEqual(hours_maybe(words, ((1,), 1, ())), [])
        words = [(1, 0, 1, 2, "yes"), (2, 0, 1, 2, "maybe")]
        self.assertEqual(hours(words, ((1,), 1, ())), [])
        self.assertEqual(hours_maybe(words, ((1,), 1, ())), [2])

    def test_alike_ones_are_one(self):
        words = [(1, 0, 1, 2, "yes")] * 80
        for asked in ASKED:
            self.assertEqual(asked(words, ((1, 2), 1, ())), [2])
            self.assertEqual(asked(words, ((1, 2), 2, ())), [])

    def test_made_up_words_and_meetings(self):
        for chance in chances(150):
            kinds = chance.choice((ANSWERS, ("yes", "yes", "yes", "maybe", "no"), ("yes", "yes", "maybe")))
            words = pool(chance, chance.choice((0, 5, 30, 79, 80)), chance.choice((2, 5, 12)), kinds)
            for _ in range(10):
                meeting = made_up_meeting(chance)
                told, could = hours(words, meeting), hours_maybe(words, meeting)
                self.assertEqual(told, hours_one_by_one(words, meeting))
                self.assertEqual(could, hours_one_by_one(maybes_made_yes(words), meeting))
                self.assertEqual(could, hours(maybes_made_yes(words), meeting))
                self.assertLessEqual(set(told), set(could))
                self.assertEqual(hours(joined(words[40:], words[:40]), meeting), told)

    def test_eighty_words_go(self):
        words = [word_at(place, place % 8, place % 10) for place in range(80)]
        for asked in ASKED:
            self.assertEqual(asked(words, ((0, 2, 4, 6), 4, ())), [0, 2, 4, 6, 8])
            self.assertEqual(asked(words, (tuple(range(8)), 4, ())), list(range(10)))
            self.assertEqual(asked(words, (tuple(range(8)), 5, ())), [])

    def test_asked_again_the_same_in_a_new_list(self):
        words, meeting = [(1, 0, 1, 2, "yes"), (1, 1, 1, 9, "yes")], ((1,), 1, (1,))
        for asked in ASKED:
            told = asked(words, meeting)
            self.assertIs(told.__class__, list)
            self.assertEqual(told, [2, 9])
            again = asked(words, meeting)
            self.assertIsNot(again, told)
            told.clear()
            self.assertEqual(again, [2, 9])
            self.assertEqual(asked(words, meeting), [2, 9])
            words.append((2, 0, 1, 2, "no"))
            self.assertEqual(again, [2, 9])
            self.assertEqual(asked(words, meeting), [9])
            words.pop()
        for asked in ASKED:
            asked([], meeting).append(5)
            self.assertEqual(asked([], meeting), [])

    def test_what_is_handed_in_stays(self):
        left, right = unlike_words()[0]
        for words, meeting in (
            (distinct(20)[::-1] + distinct(5), ((0, 1, 2), 1, ())),
            ([*distinct(3)[::-1], left, right], ((0, 1), 1, ())),
            (distinct(4)[::-1], ((1, 0), 1, ())),
        ):
            before = copy.deepcopy((words, meeting))
            for asked in ASKED:
                try:
                    asked(words, meeting)
                except HourError:
                    pass
                self.assertEqual((words, meeting), before)


class WrongTest(unittest.TestCase):
    def refused(self, refusal, asked, words, meeting):
        with self.assertRaises(refusal) as caught:
            asked(words, meeting)
        self.assertIs(caught.exception.__class__, refusal)
        self.assertIsInstance(caught.exception, HourError)
        self.assertIsInstance(caught.exception, ValueError)

    def test_wrong_words(self):
        for asked in ASKED:
            for words in wrong_lists_of_words():
                self.refused(BadWords, asked, words, ((0, 1), 1, ()))

    def test_unlike_words(self):
        for asked in ASKED:
            for left, right in unlike_words():
                # Unlike ones are refused also when none of them is asked about.
                for meeting in (((3,), 1, ()), ((7,), 1, ())):
                    self.refused(Unlike, asked, [left, right], meeting)
                    self.refused(Unlike, asked, [right, *distinct(78, 40), left], meeting)

    def test_wrong_meetings(self):
        for asked in ASKED:
            for meeting in wrong_meetings():
                self.refused(BadMeeting, asked, [], meeting)
                self.refused(BadMeeting, asked, distinct(80), meeting)

    def test_right_meetings_at_their_bounds(self):
        for meeting in (
            ((0,), 1, ()), ((7,), 1, (7,)), (tuple(range(8)), 8, tuple(range(8))),
            (tuple(range(8)), 1, ()), ((0, 7), 2, (0,)), ((0, 7), 1, (7,)), ((0, 7), 1, (0, 7)),
        ):
            for asked in ASKED:
                self.assertEqual(asked([], meeting), [])

    def test_the_refusal_told_first_goes_first(self):
        left, right = unlike_words()[0]
        for asked in ASKED:
            self.refused(BadWords, asked, [left, right, None], ((0,), 1, ()))
            self.refused(BadWords, asked, [left, right, None], None)
            self.refused(BadWords, asked, [left, right, *distinct(79, 100)], ((0,), 1, ()))
            self.refused(BadWords, asked, None, None)
            self.refused(BadWords, asked, distinct(81), ((0,), 2, ()))
            self.refused(Unlike, asked, [left, right], None)
            self.refused(Unlike, asked, [left, right], ((), 1, ()))
