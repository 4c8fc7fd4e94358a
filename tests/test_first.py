import copy
import unittest

from commonhour.answers import At, Barred
from commonhour.errors import BadMeeting, BadWords, HourError, Unlike
from commonhour.tables import first
from commonhour.words import hours
from tests import own_sums
from tests.samples import (
    ANSWERS, chances, distinct, made_up_meeting, pool, said, unlike_words, word_at,
    wrong_lists_of_words, wrong_meetings,
)


class FirstTest(unittest.TestCase):
    def test_the_first_hour(self):
        words = said([9, 4, 11], [4, 6], [0, 11])
        for meeting, hour in (
            (((0,), 1, ()), 4), (((1,), 1, (1,)), 4), (((2,), 1, ()), 0), (((0, 1), 2, ()), 4),
            (((0, 2), 2, ()), 11), (((0, 1, 2), 1, ()), 0), (((0, 1, 2), 1, (1,)), 4),
            (((0, 1, 2), 2, (2,)), 11), (((2, 5, 6, 7), 1, ()), 0),
        ):
            told = first(words, meeting)
            self.assertIs(told.__class__, At)
            self.assertEqual(vars(told), {"hour": hour})
            self.assertIs(told.hour.__class__, int)
            self.assertIs(told.shows(words, meeting), True)

    def test_each_hour_alone(self):
        for hour in range(12):
            self.assertEqual(first(said([hour]), ((0,), 1, ())).hour, hour)

    def test_those_who_bar_it(self):
        words = said([4, 5], [5, 6], [4, 6])
        for meeting in (
            ((0, 1, 2), 3, ()), ((0, 1, 2, 3), 3, ()), ((0, 1, 2, 3), 1, (3,)), ((3, 4), 1, ()),
            ((0, 1, 2), 2, (0, 1, 2)), ((7,), 1, (7,)), (tuple(range(8)), 8, tuple(range(8))),
            (tuple(range(8)), 3, ()),
        ):
            for known in (words, words[::-1], []):
                told = first(known, meeting)
                self.assertIs(told.__class__, Barred)
                self.assertEqual(list(vars(told)), ["rows"])
                self.assertEqual(len(told.rows), 12)
                self.assertTrue(own_sums.barred_is_right(told.rows, known, meeting))
                self.assertIs(told.shows(known, meeting), True)

    def test_a_maybe_and_what_was_taken_back_do_not_count(self):
        words = [(1, 0, 3, 2, "yes"), (2, 0, 3, 2, "no"), (1, 1, 3, 5, "maybe"), (9, 0, 3, 7, "yes")]
        self.assertEqual(first(words, ((3,), 1, ())).hour, 7)
        self.assertIsInstance(first(words[:3], ((3,), 1, ())), Barred)

    def test_just_one_is_told_and_shows(self):
        seen = []
        for chance in chances(300):
            words = pool(chance, chance.choice((0, 10, 40, 79, 80)), chance.choice((2, 12)),
                         chance.choice((ANSWERS, ("yes", "yes", "no"))))
            meeting = made_up_meeting(chance)
            told = first(words, meeting)
            found = own_sums.hours_one_by_one(words, meeting)
            self.assertIs(told.__class__, At if found else Barred)
            self.assertIs(told.shows(words, meeting), True)
            self.assertEqual(hours(words, meeting), found)
            if found:
                self.assertEqual(told.hour, found[0])
                # No rows could be told beside it.
                all_people = [list(meeting[0]) for _ in range(12)]
                away = [
                    [person for person in meeting[0] if own_sums.answer_of(words, person, hour) != "yes"]
                    for hour in range(12)
                ]
                self.assertIs(Barred(all_people).shows(words, meeting), False)
                self.assertIs(Barred(away).shows(words, meeting), False)
            else:
                self.assertTrue(own_sums.barred_is_right(told.rows, words, meeting))
                self.assertFalse(any([At(hour).shows(words, meeting) for hour in range(-1, 13)]))
            seen.append(told.__class__)
        self.assertGreater(min(seen.count(At), seen.count(Barred)), 30)

    def test_asked_again_a_new_answer_with_lists_of_its_own(self):
        words, meeting = said([3]), ((0, 1), 2, ())
        told, again = first(words, meeting), first(words, meeting)
        rows = copy.deepcopy(told.rows)
        for row in told.rows:
            self.assertIs(row.__class__, list)
            row.append(5)
            self.assertEqual(len([other for other in told.rows if other is row]), 1)
        told.rows.clear()
        self.assertEqual(again.rows, rows)
        self.assertEqual(first(words, meeting).rows, rows)
        at = first(words, ((0,), 1, ()))
        at.hour = 9
        self.assertEqual(first(words, ((0,), 1, ())).hour, 3)

    def test_an_answer_does_not_follow_the_words(self):
        words, meeting = said([3]), ((0,), 1, ())
        told = first(words, meeting)
        words.append((50, 0, 0, 3, "no"))
        self.assertEqual(told.hour, 3)
        self.assertIs(told.shows(words, meeting), False)
        self.assertIsInstance(first(words, meeting), Barred)

    def test_eighty_words_and_a_count_of_99_go(self):
        words = [word_at(place, place % 8, place % 12, "no") for place in range(79)]
        words.append((99, 3, 7, 11, "yes"))
        self.assertEqual(first(words, ((6, 7), 1, (7,))).hour, 11)
        self.assertIsInstance(first(words, ((6, 7), 1, (6,))), Barred)

    def test_what_is_handed_in_stays(self):
        left, right = unlike_words()[0]
        for words, meeting in (
            (distinct(20)[::-1] + distinct(5), ((0, 1, 2), 1, ())), ([], ((0, 1), 1, ())),
            ([*distinct(3)[::-1], left, right], ((0, 1), 1, ())), (distinct(4)[::-1], ((1, 0), 1, ())),
        ):
            before = copy.deepcopy((words, meeting))
            try:
                first(words, meeting)
            except HourError:
                pass
            self.assertEqual((words, meeting), before)


class WrongTest(unittest.TestCase):
    def refused(self, refusal, words, meeting):
        with self.assertRaises(refusal) as caught:
            first(words, meeting)
        self.assertIs(caught.exception.__class__, refusal)

    def test_wrong_words(self):
        for words in wrong_lists_of_words():
            self.refused(BadWords, words, ((0, 1), 1, ()))

    def test_unlike_words(self):
        for left, right in unlike_words():
            self.refused(Unlike, [left, right], ((3,), 1, ()))
            self.refused(Unlike, [right, *distinct(78, 40), left], ((7,), 1, ()))

    def test_wrong_meetings(self):
        for meeting in wrong_meetings():
            self.refused(BadMeeting, [], meeting)
            self.refused(BadMeeting, distinct(80), meeting)

    def test_the_refusal_told_first_goes_first(self):
        left, right = unlike_words()[0]
        self.refused(BadWords, [left, right, None], None)
        self.refused(BadWords, None, None)
        self.refused(BadWords, [left, right, *distinct(79, 100)], ((0,), 1, ()))
        self.refused(Unlike, [left, right], None)
        self.refused(Unlike, [left, right], ((), 1, ()))
