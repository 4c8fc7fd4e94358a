import copy
import itertools
import random
import unittest

from commonhour.answers import Moved, Tight
from commonhour.errors import BadMeeting, BadOlds, BadWords, HourError, Unlike
from commonhour.tables import table
from tests import own_sums
from tests.samples import (
    alone, chances, distinct, made_up_meetings, made_up_olds, pool, said, unlike_words, word_at,
    wrong_lists_of_meetings, wrong_lists_of_words, wrong_meetings, wrong_olds,
)


class TableTest(unittest.TestCase):
    def moved(self, words, meetings, olds):
        """A Moved, after a look at all of it."""
        told = table(words, meetings, olds)
        self.assertIs(told.__class__, Moved)
        self.assertEqual(sorted(vars(told)), ["hours", "prices", "rents"])
        for field in (told.hours, told.prices, told.rents):
            self.assertIs(field.__class__, list)
            self.assertEqual({number.__class__ for number in field} - {int}, set())
        self.assertTrue(own_sums.moved_is_right(told.hours, told.prices, told.rents, words, meetings, olds))
        self.assertIs(told.shows(words, meetings, olds), True)
        return told

    def tight(self, words, meetings, olds):
        """A Tight, after a look at all of it."""
        told = table(words, meetings, olds)
        self.assertIs(told.__class__, Tight)
        self.assertEqual(sorted(vars(told)), ["hours", "meetings"])
        for field in (told.meetings, told.hours):
            self.assertIs(field.__class__, list)
            self.assertEqual({number.__class__ for number in field} - {int}, set())
        self.assertTrue(own_sums.tight_is_right(told.meetings, told.hours, words, meetings))
        self.assertIs(told.shows(words, meetings, olds), True)
        return told

    def right(self, words, meetings, olds, least):
        """Whichever is due, with the least jumps that the own sums tell."""
        if least is None:
            return self.tight(words, meetings, olds)
        told = self.moved(words, meetings, olds)
        self.assertEqual(own_sums.jumps_together(told.hours, olds), least)
        return told

    def test_no_meetings(self):
        for words in ([], said([1, 2]), distinct(80)):
            told = self.moved(words, [], [])
            self.assertEqual(vars(told), {"hours": [], "prices": [], "rents": [0] * 12})

    def test_one_meeting_goes_to_its_nearest_hour(self):
        for old, hour in ((None, None), (0, 3), (3, 3), (4, 3), (6, 7), (7, 7), (9, 10), (11, 10)):
            told = self.moved(said([3, 7, 10]), alone(0), [old])
            self.assertIn(told.hours[0], (3, 7, 10))
            if hour is not None:
                self.assertEqual(told.hours, [hour])
        self.assertIn(self.moved(said([3, 7]), alone(0), [5]).hours, ([3], [7]))

    def test_each_old_hour_and_each_hour(self):
        for old, hour in itertools.product(range(12), repeat=2):
            told = self.moved(said([hour]), alone(0), [old])
            self.assertEqual(told.hours, [hour])
            self.assertEqual(told.prices[0] + sum(told.rents), abs(hour - old))

    def test_one_makes_room_for_another(self):
        # Both were at 2, and it is nearer for the first to go.
        told = self.moved(said([2, 5], [2, 9]), alone(0, 1), [2, 2])
        self.assertEqual(told.hours, [5, 2])
        told = self.moved(said([2, 9], [2, 5]), alone(0, 1), [2, 2])
        self.assertEqual(told.hours, [2, 5])
        # The one whose turn comes first would like an hour that is another's only one.
        told = self.moved(said([2, 11], [2]), alone(0, 1), [2, 2])
        self.assertEqual(told.hours, [11, 2])

    def test_a_whole_row_makes_room(self):
        # Each goes on by one, as the last one has one hour alone.
        rows = [[at, at + 1] for at in range(5)] + [[0]]
        told = self.moved(said(*rows), alone(0, 1, 2, 3, 4, 5), [0, 1, 2, 3, 4, 0])
        self.assertEqual(told.hours, [1, 2, 3, 4, 5, 0])

    def test_six_meetings_and_as_many_hours(self):
        for chance in chances(20):
            olds = chance.sample(range(12), 6)
            rows = [list(range(12))] * 6
            told = self.moved(said(*rows), alone(*range(6)), olds)
            self.assertEqual(told.hours, olds)
            taken = chance.sample(range(12), 6)
            told = self.moved(said(*[taken] * 6), alone(*range(6)), olds)
            self.assertEqual(sorted(told.hours), sorted(taken))
            # All may be at the same hours, so the turn of the olds is a nearest one.
            nearest = sum(abs(one - other) for one, other in zip(sorted(olds), sorted(taken)))
            self.assertEqual(own_sums.jumps_together(told.hours, olds), nearest)

    def test_six_meetings_and_five_hours(self):
        words = said(*[[0, 2, 4, 6, 11]] * 6)
        for olds in ([None] * 6, [0] * 6, [0, 2, 4, 6, 11, 3]):
            told = self.tight(words, alone(*range(6)), olds)
            self.assertEqual(sorted(told.meetings), list(range(6)))
            self.assertEqual(sorted(set(told.hours)), [0, 2, 4, 6, 11])
            self.moved(words, alone(*range(5)), olds[:5])

    def test_olds_that_are_all_none(self):
        for many in range(7):
            rows = [[at, (at + 1) % 6] for at in range(many)]
            told = self.moved(said(*rows), alone(*range(many)), [None] * many)
            self.assertEqual(sum(told.prices) + sum(told.rents), 0)

    def test_an_old_one_of_none_makes_room_for_free(self):
        told = self.moved(said([2, 11], [2, 3]), alone(0, 1), [None, 2])
        self.assertEqual(told.hours, [11, 2])
        told = self.moved(said([2, 3], [2, 11]), alone(0, 1), [2, None])
        self.assertEqual(told.hours, [2, 11])
        told = self.moved(said([2, 3], [2, 11]), alone(0, 1), [0, 0])
        self.assertEqual(told.hours, [3, 2])

    def test_a_meeting_with_no_hour(self):
        for meetings in (alone(5), alone(5, 0), alone(0, 5), alone(0, 1, 5), [((0, 1), 2, ())], [((0,), 1, ())] * 3):
            words = said([3], [4])
            self.tight(words, meetings, [None] * len(meetings))
            self.tight([], meetings, [0] * len(meetings))
        self.tight([], alone(0, 1, 2, 3, 4, 5), [0, 1, 2, 3, 4, 5])
        self.assertEqual(vars(self.tight(said([3]), alone(0, 5), [3, 3])), {"meetings": [1], "hours": []})

    def test_some_meetings_share_too_few_hours(self):
        words = said([3, 8], [3], [8], [0, 3, 8, 9])
        for turn in itertools.permutations(range(4)):
            told = self.tight(words, alone(*turn), [None, 0, 5, 11])
            people = {turn[at] for at in told.meetings}
            self.assertLessEqual({0, 1, 2}, people | {3})
            self.assertNotIn(3, people)

    def test_two_meetings_of_the_same_people(self):
        meeting = ((0, 1), 2, (1,))
        words = said([4, 5, 7], [4, 6, 7])
        self.assertEqual(sorted(self.moved(words, [meeting] * 2, [None, None]).hours), [4, 7])
        self.assertEqual(self.moved(words, [meeting] * 2, [6, 8]).hours, [4, 7])
        self.assertEqual(self.moved(words, [meeting] * 2, [8, 6]).hours, [7, 4])
        self.tight(words, [meeting] * 3, [None, None, None])

    def test_the_rent_of_an_hour_at_the_bounds(self):
        for low, high in ((0, 11), (11, 0), (0, 1), (10, 11)):
            told = self.moved(said([low, high], [low]), alone(0, 1), [low, low])
            self.assertEqual(told.hours, [high, low])
            told = self.moved(said([low], [low, high]), alone(0, 1), [low, low])
            self.assertEqual(told.hours, [low, high])

    def test_enough_and_needed_ones_tell_the_hours(self):
        words = said([1, 2, 3], [2, 3], [3, 5])
        meetings = [((0, 1, 2), 2, ()), ((0, 1, 2), 1, (2,)), ((0, 1), 1, (0, 1))]
        # The hours are 2 and 3; 3 and 5; 2 and 3.
        told = self.moved(words, meetings, [3, 3, 3])
        self.assertEqual(told.hours[1], 5)
        self.assertEqual(sorted(told.hours), [2, 3, 5])
        self.tight(words, [meetings[0], meetings[0], meetings[2]], [3, 3, 3])

    def test_a_maybe_and_what_was_taken_back_are_no_hours(self):
        words = [(1, 0, 0, 2, "yes"), (2, 0, 0, 2, "no"), (3, 0, 0, 5, "maybe"), (4, 0, 0, 9, "yes")]
        self.assertEqual(self.moved(words, alone(0), [2]).hours, [9])
        self.tight(words[:3], alone(0), [2])

    def test_eighty_words_and_a_count_of_99(self):
        words = [word_at(place, place % 8, place // 8) for place in range(79)] + [(99, 3, 5, 11, "yes")]
        told = self.moved(words, alone(0, 1, 2, 3, 4, 5), [11, 10, 9, 9, 9, 11])
        self.assertEqual(told.hours[5], 11)

    def test_few_meetings_against_own_sums_over_all_tables(self):
        seen = []
        for chance in chances(500):
            many = chance.randint(0, 3)
            kinds = ("yes", "yes", "no", "maybe")
            words = pool(chance, chance.choice((5, 30, 60, 80)), chance.choice((2, 4, 12)), kinds)
            meetings, olds = made_up_meetings(chance, many), made_up_olds(chance, many)
            told = self.right(words, meetings, olds, own_sums.least_jumps(words, meetings, olds))
            seen.append(told.__class__)
        self.assertGreater(min(seen.count(Moved), seen.count(Tight)), 100)

    def test_up_to_six_meetings_against_own_sums(self):
        seen = []
        for chance in chances(120):
            many = chance.randint(4, 6)
            rows = [chance.sample(range(chance.choice((6, 8, 12))), chance.randint(1, 6)) for _ in range(8)]
            words = said(*rows)
            meetings = alone(*[chance.randrange(8) for _ in range(many)])
            olds = chance.choice((made_up_olds(chance, many), [chance.randrange(12)] * many))
            told = self.right(words, meetings, olds, own_sums.least_jumps_of_many(words, meetings, olds))
            seen.append(told.__class__)
        self.assertGreater(min(seen.count(Moved), seen.count(Tight)), 20)

    def test_own_sums_agree(self):
        for chance in chances(60):
            words = said(*[chance.sample(range(6), chance.randint(1, 4)) for _ in range(4)])
            meetings, olds = alone(*chance.sample(range(4), 4)), made_up_olds(chance, 4)
            self.assertEqual(own_sums.least_jumps(words, meetings, olds),
                             own_sums.least_jumps_of_many(words, meetings, olds))

    def test_never_both(self):
        for chance in chances(150):
            many = chance.randint(1, 3)
            words = pool(chance, 40, 4, ("yes", "yes", "no"))
            meetings, olds = made_up_meetings(chance, many), made_up_olds(chance, many)
            if isinstance(table(words, meetings, olds), Moved):
                for chosen, hours in self.all_choices(many):
                    self.assertIs(Tight(chosen, hours).shows(words, meetings, olds), False)
            else:
                for hours in itertools.product(range(4), repeat=many):
                    self.assertIs(Moved(list(hours), [0] * many, [0] * 12).shows(words, meetings, [None] * many), False)

    def all_choices(self, many):
        for some in range(many + 1):
            for chosen in itertools.combinations(range(many), some):
                for few in range(some):
                    for hours in itertools.combinations(range(5), few):
                        yield list(chosen), list(hours)

    def test_the_same_in_whatever_turn_the_words_are(self):
        for chance in chances(40):
            words = pool(chance, 60, 6, ("yes", "yes", "maybe"))
            meetings, olds = made_up_meetings(chance, 4), made_up_olds(chance, 4)
            told = table(words, meetings, olds)
            turned = words[:10] + words
            random.Random(5).shuffle(turned)
            again = table(turned, meetings, olds)
            self.assertEqual((again.__class__, vars(again)), (told.__class__, vars(told)))

    def test_asked_again_a_new_answer_with_lists_of_its_own(self):
        for words, meetings, olds in (
            (said([2, 5], [2, 9]), alone(0, 1), [2, 2]), (said([2], [2]), alone(0, 1), [2, 2]), ([], [], []),
        ):
            told, again = table(words, meetings, olds), table(words, meetings, olds)
            fields = copy.deepcopy(vars(told))
            for field in vars(told).values():
                field.append(77)
            self.assertEqual(vars(again), fields)
            self.assertEqual(vars(table(words, meetings, olds)), fields)
            lists = [id(field) for field in (*vars(told).values(), *vars(again).values(), words, meetings, olds)]
            self.assertEqual(len(set(lists)), len(lists))

    def test_what_is_handed_in_stays(self):
        left, right = unlike_words()[0]
        words, meetings, olds = said([2, 5], [2, 9])[::-1] * 2, alone(0, 1), [2, None]
        for asked in (
            (words, meetings, olds), (words, meetings + meetings, olds * 2), (words, [], []),
            ([left, right], meetings, olds), (words, [meetings[0], None], olds), (words, meetings, [2, 12]),
            (words, meetings, [2]), (words + [None], meetings, olds),
        ):
            before = copy.deepcopy(asked)
            try:
                table(*asked)
            except HourError:
                pass
            self.assertEqual(asked, before)

    def test_an_answer_does_not_follow_what_was_handed_in(self):
        words, meetings, olds = said([2, 5], [2, 9]), alone(0, 1), [2, 2]
        told = table(words, meetings, olds)
        fields = copy.deepcopy(vars(told))
        words.clear()
        meetings.clear()
        olds.clear()
        self.assertEqual(vars(told), fields)


class WrongTest(unittest.TestCase):
    def refused(self, refusal, words, meetings, olds):
        with self.assertRaises(refusal) as caught:
            table(words, meetings, olds)
        self.assertIs(caught.exception.__class__, refusal)
        self.assertIsInstance(caught.exception, HourError)

    def test_wrong_words(self):
        for words in wrong_lists_of_words():
            self.refused(BadWords, words, alone(0, 1), [None, 2])

    def test_unlike_words(self):
        for left, right in unlike_words():
            self.refused(Unlike, [left, right], [], [])
            self.refused(Unlike, [right, *distinct(78, 40), left], alone(0), [3])

    def test_wrong_meetings(self):
        for meetings in wrong_lists_of_meetings():
            for words in ([], distinct(80)):
                self.refused(BadMeeting, words, meetings, [None, 4])

    def test_seven_meetings(self):
        words = said(*[list(range(10))] * 7)
        self.refused(BadMeeting, words, alone(0, 1, 2, 3, 4, 5, 6), [None] * 7)
        self.refused(BadMeeting, words, [((0,), 1, ())] * 7, [None] * 6)
        self.assertIsInstance(table(words, alone(0, 1, 2, 3, 4, 5), [None] * 6), Moved)

    def test_wrong_olds(self):
        for many in (0, 1, 2, 6):
            words = said(*[list(range(12))] * 6)
            for olds in wrong_olds(many):
                self.refused(BadOlds, words, alone(*range(many)), olds)
                self.refused(BadOlds, [], alone(*range(many)), olds)

    def test_right_olds_at_their_bounds(self):
        for olds in ([0, 11], [None, 0], [11, None], [None, None]):
            self.assertIsInstance(table(said([0, 11], [0, 11]), alone(0, 1), olds), Moved)

    def test_the_refusal_told_first_goes_first(self):
        left, right = unlike_words()[0]
        for meetings in (None, [None], alone(0), [((0,), 2, ())], alone(*range(7))):
            for olds in (None, [], [12], [None]):
                self.refused(BadWords, [left, right, None], meetings, olds)
                self.refused(BadWords, distinct(81), meetings, olds)
                self.refused(BadWords, None, meetings, olds)
                self.refused(Unlike, [left, right], meetings, olds)
                if meetings != alone(0):
                    self.refused(BadMeeting, [], meetings, olds)
                elif olds != [None]:
                    self.refused(BadOlds, [], meetings, olds)
        for meeting in wrong_meetings():
            self.refused(BadMeeting, [], [meeting], [12])
