import copy
import itertools
import unittest

from commonhour import answers
from commonhour.answers import Answer, At, Barred, Moved, Tight
from commonhour.tables import first, table
from tests import own_sums
from tests.samples import (
    alone, chances, made_up_meeting, made_up_meetings, made_up_olds, pool, said, word_at,
)

HUGE = 10 ** 40
BARE = [0] * 12


def deep(many):
    """A list in a list in a list, so many times."""
    told = []
    for _ in range(many):
        told = [told]
    return told


def other_fields():
    """Fields of right kinds that are no part of an answer to the cases below."""
    numbers = (-1, 12, 13, 99, -HUGE, HUGE)
    lists = ([-1], [12], [HUGE], [-HUGE] * 3, [[]], [[], []], [[[0]]], [[0], 1], [1, [0]])
    many = ([7] * 3000, list(range(3000)), [[0]] * 3000, [[0, 1]] * 13, [[]] * 12, deep(5000))
    return [*numbers, *lists, *many, [[1]] * 11 + [[]], [[1]] * 11 + [1], [1] + [[1]] * 11]


def change(chance, numbers, above):
    """Turn the list, put a number below this one in, or take one out."""
    kind = chance.randrange(3)
    if kind == 0:
        numbers.reverse()
    elif kind == 1:
        numbers.append(chance.randrange(-1, above))
    elif numbers:
        numbers.pop(chance.randrange(len(numbers)))


class ClassesTest(unittest.TestCase):
    def test_each_is_straight_under_answer(self):
        for name in ("At", "Barred", "Moved", "Tight"):
            kind = getattr(answers, name)
            self.assertEqual(kind.__bases__, (Answer,))
            self.assertIn("shows", vars(kind))
        self.assertEqual(Answer.__bases__, (object,))

    def test_fields(self):
        self.assertEqual(vars(At(5)), {"hour": 5})
        self.assertEqual(vars(Barred([[1], [2, 3]])), {"rows": [[1], [2, 3]]})
        self.assertEqual(vars(Moved([1], [2], [3])), {"hours": [1], "prices": [2], "rents": [3]})
        self.assertEqual(vars(Tight([1], [2])), {"meetings": [1], "hours": [2]})

    def test_any_fields_are_taken_as_they_are(self):
        for field in other_fields():
            for told, names in (
                (At(field), ("hour",)), (Barred(field), ("rows",)),
                (Moved(field, field, field), ("hours", "prices", "rents")),
                (Tight(field, field), ("meetings", "hours")),
            ):
                self.assertEqual(sorted(vars(told)), sorted(names))
                if field != [] and field.__class__ is list and field[0].__class__ is list:
                    continue
                for name in names:
                    self.assertEqual(getattr(told, name), field)

    def test_lists_are_copied_and_those_within_too(self):
        def fields():
            return [3, [1, 2], [[1], [2, 3]], [1, [2, [3, [4, []]]], [[]]], [], [[]]]

        for field, same in zip(fields(), fields()):
            told = [
                At(field).hour, Barred(field).rows, Moved(field, [], []).hours,
                Moved([], field, []).prices, Moved([], [], field).rents,
                Tight(field, []).meetings, Tight([], field).hours,
            ]
            for one in told:
                self.assertEqual(one, same)
            self.change_all(field)
            for one in told:
                self.assertEqual(one, same)
            # What one caller does to its answer changes no other one.
            self.change_all(told[0])
            for one in told[1:]:
                self.assertEqual(one, same)

    def change_all(self, field):
        if isinstance(field, list):
            for member in field:
                self.change_all(member)
            field.append("changed")

    def test_a_list_that_is_there_twice_is_copied_twice(self):
        row = [1]
        told = Barred([row] * 12)
        told.rows[0].append(2)
        self.assertEqual(told.rows, [[1, 2]] + [[1]] * 11)
        self.assertEqual(row, [1])
        row.append(9)
        self.assertEqual(told.rows[11], [1])
        told = Moved(row, row, row)
        told.hours.append(5)
        self.assertEqual((told.hours, told.prices, told.rents, row), ([1, 9, 5], [1, 9], [1, 9], [1, 9]))
        told = Tight(row, row)
        told.hours.append(5)
        self.assertEqual((told.meetings, row), ([1, 9], [1, 9]))

    def test_lists_within_lists_go_deep(self):
        for told in (At(deep(50000)), Barred(deep(50000)), Barred([deep(50000)] * 12)):
            self.assertIs(told.shows([], ((0,), 1, ())), False)
        field = deep(50000)
        for told in (Moved(field, [], BARE), Moved([], field, BARE), Moved([], [], field), Tight(field, [])):
            self.assertIs(told.shows([], [], []), False)
        self.assertIs(Tight([0], field).shows([], alone(0), [None]), False)


class AtTest(unittest.TestCase):
    def test_the_first_hour_and_no_other(self):
        words = said([4, 9], [4, 6])
        for meeting, hour in (
            (((0,), 1, ()), 4), (((1,), 1, (1,)), 4), (((0, 1), 2, ()), 4),
            (((0, 1), 1, ()), 4), (((2,), 1, ()), None),
        ):
            for asked in range(-3, 16):
                self.assertIs(At(asked).shows(words, meeting), asked == hour)
        words = said([11, 0])
        self.assertIs(At(0).shows(words, ((0,), 1, ())), True)
        self.assertIs(At(11).shows(words, ((0,), 1, ())), False)
        self.assertIs(At(11).shows(said([11]), ((0,), 1, ())), True)
        self.assertIs(At(-1).shows(said([11]), ((0,), 1, ())), False)

    def test_words_that_were_taken_back_and_maybes(self):
        meeting = ((3,), 1, ())
        words = [(1, 0, 3, 2, "yes"), (2, 0, 3, 2, "no"), (1, 1, 3, 5, "maybe"), (9, 0, 3, 7, "yes")]
        for turned in itertools.permutations(words):
            self.assertEqual([At(hour).shows(list(turned), meeting) for hour in (2, 5, 7)], [False, False, True])

    def test_other_fields(self):
        words = said([0, 1, 2], [3])
        for field in [*other_fields(), [0], [], [[0]], True, False, None, "0"]:
            for meeting in (((0,), 1, ()), ((1,), 1, ()), ((2,), 1, ()), ((0, 1), 2, (0,))):
                self.assertIs(At(field).shows(words, meeting), False)
                self.assertIs(At(field).shows([], meeting), False)

    def test_by_the_field_as_it_stands_then(self):
        words, meeting = said([4]), ((0,), 1, ())
        told = first(words, meeting)
        self.assertIs(told.shows(words, meeting), True)
        for field, shown in ((5, False), ([4], False), (4, True), (-8, False), (4, True)):
            told.hour = field
            self.assertIs(told.shows(words, meeting), shown)
        self.assertIs(told.shows([], meeting), False)
        self.assertIs(told.shows(words, ((1,), 1, ())), False)


class BarredTest(unittest.TestCase):
    # Of five at least three; at each hour 0 and 1 say yes, and 6 and 7 say no.
    words = [word_at(12 * person + hour, person, hour) for person in (0, 1) for hour in range(12)]
    words += [word_at(24 + 12 * at + hour, 6 + at, hour, "no") for at in (0, 1) for hour in range(12)]
    meeting = ((0, 1, 2, 4, 6), 3, ())

    def shown(self, row, meeting, words=None):
        """What is shown with this row once at each hour, all the others being right."""
        words = self.words if words is None else words
        good = first(words, meeting).rows
        found = {
            Barred(good[:hour] + [row] + good[hour + 1:]).shows(words, meeting) for hour in range(12)
        }
        self.assertEqual(len(found), 1)
        return found.pop()

    def test_more_than_may_stay_away(self):
        # Three of five may bar it, as no three are left; in any turn.
        for row in itertools.permutations((2, 4, 6)):
            self.assertIs(self.shown(list(row), self.meeting), True)
        for row in ([2, 4], [6], [], [2, 4, 4], [2, 4, 6, 6], [2, 2, 2]):
            self.assertIs(self.shown(row, self.meeting), False)

    def test_those_who_say_yes_and_those_outside_do_not_bar(self):
        for row in ([2, 4, 6, 0], [1, 2, 4], [2, 4, 6, 7], [2, 4, 7], [2, 4, 6, 5], [3, 5, 7],
                    [2, 4, 6, 8], [2, 4, 6, -1], [2, 4, 6, HUGE], [2, 4, -2], [-3, -2, -1]):
            self.assertIs(self.shown(row, self.meeting), False)

    def test_a_needed_one_bars_alone(self):
        meeting = ((0, 1, 2, 4, 6), 2, (1, 4))
        for row in ([4], [4, 6], [6, 4], [2, 6, 4]):
            self.assertIs(self.shown(row, meeting), True)
        for row in ([2], [6], [2, 6], [1], [1, 4], [4, 4], [], [4, 7], [2, 4, 0]):
            self.assertIs(self.shown(row, meeting), False)

    def test_just_enough_who_may_stay_away_do_not_bar(self):
        # All four who are asked here say nothing.
        for enough in range(1, 5):
            meeting = ((2, 3, 4, 5), enough, ())
            for many in range(5):
                row = [5, 4, 3, 2][:many]
                self.assertIs(self.shown(row, meeting), many > 4 - enough)

    def test_maybe_is_no_yes(self):
        words = [word_at(hour, 2, hour, "maybe") for hour in range(12)]
        self.assertIs(self.shown([2], ((2,), 1, ()), words), True)
        self.assertIs(self.shown([2], ((2, 3), 1, (2,)), words), True)

    def test_a_row_for_each_of_twelve_hours(self):
        good = [[2, 4, 6] for _ in range(12)]
        self.assertIs(Barred(good).shows(self.words, self.meeting), True)
        for rows in (good[:11], good + [[2, 4, 6]], good * 2, [], good[:1], [good], [[good]] * 12,
                     [2, 4, 6], [2] * 12, [[2, 4, [6]]] * 12, [[[2, 4, 6]]] * 12, good[:11] + [6]):
            self.assertIs(Barred(rows).shows(self.words, self.meeting), False)

    def test_each_hour_has_its_own_row(self):
        # At even hours 0 bars it, at odd ones 1 does.
        words = [word_at(hour, 1 - hour % 2, hour) for hour in range(12)]
        meeting = ((0, 1), 2, ())
        good = [[hour % 2] for hour in range(12)]
        self.assertIs(Barred(good).shows(words, meeting), True)
        self.assertIs(Barred(good[1:] + good[:1]).shows(words, meeting), False)
        for hour in range(12):
            self.assertIs(Barred(good[:hour] + [[1 - hour % 2]] + good[hour + 1:]).shows(words, meeting), False)

    def test_none_where_it_can_be(self):
        # At hour 7 it can be, so no row bars it there.
        words, meeting = said([7], [7]), ((0, 1, 2), 2, ())
        for row in ([], [2], [0, 1], [0, 1, 2], [2, 2]):
            rows = [[0, 1, 2] for _ in range(7)] + [row] + [[0, 1, 2] for _ in range(4)]
            self.assertIs(Barred(rows).shows(words, meeting), False)
            self.assertIs(Barred(rows).shows(words, ((0, 1, 2), 2, (0,))), False)

    def test_other_fields(self):
        for field in [*other_fields(), True, None, "", [[True]] * 12, [[None]] * 12, [None] * 12]:
            for meeting in (self.meeting, ((0, 6), 2, (6,)), ((0,), 1, ())):
                self.assertIs(Barred(field).shows(self.words, meeting), False)
        many = [[6] * 100000] + [[6]] * 11
        self.assertIs(Barred(many).shows(self.words, ((6,), 1, ())), False)

    def test_by_the_fields_as_they_stand_then(self):
        told = first(self.words, self.meeting)
        self.assertIs(told.shows(self.words, self.meeting), True)
        told.rows[5].append(0)
        self.assertIs(told.shows(self.words, self.meeting), False)
        told.rows[5].pop()
        told.rows[5].reverse()
        self.assertIs(told.shows(self.words, self.meeting), True)
        told.rows.pop()
        self.assertIs(told.shows(self.words, self.meeting), False)
        told.rows.append([4, 6, 2])
        self.assertIs(told.shows(self.words, self.meeting), True)
        told.rows = 4
        self.assertIs(told.shows(self.words, self.meeting), False)
        told.rows = [[6, 4, 2] for _ in range(12)]
        self.assertIs(told.shows(self.words, self.meeting), True)

    def test_made_up_rows_against_own_sums(self):
        seen = []
        for chance in chances(400):
            words = pool(chance, chance.choice((0, 10, 40, 80)), answers=("maybe", "no", "yes"))
            meeting = made_up_meeting(chance)
            rows = [
                [person for person in chance.sample(range(8), 8)
                 if own_sums.answer_of(words, person, hour) != "yes" and person in meeting[0]]
                for hour in range(12)
            ]
            for _ in range(chance.randrange(3)):
                change(chance, chance.choice(rows), 9)
            shown = Barred(rows).shows(words, meeting)
            self.assertIs(shown, own_sums.barred_is_right(rows, words, meeting))
            seen.append(shown)
        self.assertEqual({True, False}, set(seen))
        self.assertGreater(min(seen.count(True), seen.count(False)), 50)


class MovedTest(unittest.TestCase):
    # The first can be at 2 and 5, the second at 2 and 9; both were at 2 before.
    words = said([2, 5], [2, 9])
    meetings = alone(0, 1)
    olds = [2, 2]
    rents = [0, 0, -3, 0, 0, 0, 0, 0, 0, 0, 0, 0]

    def shown(self, hours, prices, rents, olds=None):
        olds = self.olds if olds is None else olds
        return Moved(hours, prices, rents).shows(self.words, self.meetings, olds)

    def test_prices_and_rents_that_show_it(self):
        # 5 and 2 is the nearest: three in all; 2 and 9 makes seven, 5 and 9 ten.
        self.assertIs(self.shown([5, 2], [3, 3], self.rents), True)
        self.assertIs(self.shown([2, 9], [3, 3], self.rents), False)
        self.assertIs(self.shown([5, 9], [3, 3], self.rents), False)
        # The same hours are shown by other prices, too.
        rents = list(self.rents)
        rents[2] = -7
        self.assertIs(self.shown([5, 2], [3, 7], rents), True)
        for wrong in (0, -1, -2, -4, -8, 3, -HUGE):
            rents[2] = wrong
            self.assertIs(self.shown([5, 2], [3, -wrong], rents), wrong == -4)

    def test_hours_that_are_not_the_nearest_are_never_shown(self):
        for hours in ([2, 9], [5, 9]):
            for one, other, rent in itertools.product(range(-2, 9), range(-2, 9), range(-8, 3)):
                rents = [0, 0, rent, *BARE[3:]]
                self.assertIs(self.shown(hours, [one, other], rents), False)

    def test_all_are_as_much_as_all_jumps(self):
        for one, other in itertools.product(range(-2, 9), range(-2, 9)):
            self.assertIs(self.shown([5, 2], [one, other], self.rents), (one, other) == (3, 3))
        for hour in range(12):
            rents = list(self.rents)
            rents[hour] -= 1
            self.assertIs(self.shown([5, 2], [3, 3], rents), False)
            # Rents of hours at which none of them can be count into the sum, too.
            self.assertIs(self.shown([5, 2], [3, 4], rents), hour == 2)

    def test_rents_are_0_at_the_most(self):
        words, meetings = said([4]), alone(0)
        for rent in (-HUGE, -2, -1, 0, 1, 2, HUGE):
            rents = [0, 0, 0, 0, rent, *BARE[5:]]
            shown = Moved([4], [-rent], rents).shows(words, meetings, [None])
            self.assertIs(shown, rent <= 0)
            rents = [rent, *BARE[1:]]
            shown = Moved([4], [-rent], rents).shows(words, meetings, [None])
            self.assertIs(shown, rent == 0)

    def test_hours_of_their_own_at_which_they_can_be(self):
        words, meetings, olds = said([2, 5], [2, 5]), alone(0, 1), [None, None]
        for hours in itertools.product(range(-1, 13), repeat=2):
            shown = Moved(list(hours), [0, 0], BARE).shows(words, meetings, olds)
            self.assertIs(shown, sorted(hours) == [2, 5])
        self.assertIs(Moved([5, 2], [0, 0], BARE).shows(words, alone(0, 2), olds), False)

    def test_an_old_one_of_none_is_no_jump(self):
        for old, price in ((None, 0), (4, 0), (0, 4), (11, 7), (3, 1), (5, 1)):
            for worth in range(-9, 10):
                shown = Moved([4], [worth], BARE).shows(said([4]), alone(0), [old])
                self.assertIs(shown, worth == price)
        self.assertIs(self.shown([5, 2], [0, 0], BARE, [None, None]), True)
        self.assertIs(self.shown([5, 9], [0, 0], BARE, [None, None]), True)
        self.assertIs(self.shown([2, 9], [0, 0], BARE, [None, None]), True)

    def test_no_meetings(self):
        self.assertIs(Moved([], [], BARE).shows([], [], []), True)
        self.assertIs(Moved([], [], BARE).shows(self.words, [], []), True)
        for fields in (([], [], []), ([], [], BARE[1:]), ([], [], BARE + [0]), ([0], [], BARE), ([], [0], BARE),
                       ([], [], BARE[1:] + [-1]), ([], [], BARE[1:] + [1]), ([], [], BARE[2:] + [1, -1])):
            self.assertIs(Moved(*fields).shows([], [], []), False)

    def test_lists_of_wrong_lengths(self):
        hours, prices, rents = [5, 2], [3, 3], self.rents
        for wrong in ([5], [], [5, 2, 9], [5, 2, 2], [5, 2, 0], [5, 2, 5, 2]):
            self.assertIs(self.shown(wrong, prices, rents), False)
        for wrong in ([6], [3], [], [3, 3, 0], [3, 2, 1]):
            self.assertIs(self.shown(hours, wrong, rents), False)
        for wrong in (rents[:11], rents + [0], [-3], [], rents[:3], rents * 2, rents + [0] * 5000):
            self.assertIs(self.shown(hours, prices, wrong), False)
        self.assertIs(self.shown([], [], rents), False)
        self.assertIs(self.shown([], [], BARE), False)

    def test_other_fields(self):
        more = [True, None, "", [True, 2], [5, None], [3, "3"], [3, [3]], [[5], [2]], [[5, 2]], [[3, 3]]]
        for field in [*other_fields(), *more, 5, 2, 3, 0, [[0] * 12], [[rent] for rent in self.rents]]:
            self.assertIs(self.shown(field, [3, 3], self.rents), False)
            self.assertIs(self.shown([5, 2], field, self.rents), False)
            self.assertIs(self.shown([5, 2], [3, 3], field), False)
            self.assertIs(self.shown(field, field, field), False)
            self.assertIs(Moved(field, field, field).shows([], [], []), False)
        rents = [False, *self.rents[1:]]
        self.assertIs(self.shown([5, 2], [3, 3], rents), False)

    def test_numbers_of_any_size(self):
        # What one price is less the other may not be more, so sums alone don't show it.
        self.assertIs(self.shown([5, 2], [3 - HUGE, 3 + HUGE], self.rents), False)
        rents = [0, 0, -3 - HUGE, *BARE[3:]]
        self.assertIs(self.shown([5, 2], [3, 3 + HUGE], rents), False)
        words = said([4], [6])
        for size in (1, 10 ** 9, 2 ** 64, HUGE, 10 ** 5000):
            rents = [0, 0, 0, 0, -size, 0, -size - 1, *BARE[7:]]
            told = Moved([4, 6], [size, size + 3], rents)
            self.assertIs(told.shows(words, alone(0, 1), [4, 4]), True)
            self.assertIs(told.shows(words, alone(0, 1), [4, 5]), False)

    def test_by_the_fields_as_they_stand_then(self):
        told = table(self.words, self.meetings, self.olds)
        fields = copy.deepcopy(vars(told))
        for name in ("hours", "prices", "rents"):
            for at in range(len(fields[name])):
                for by in (-HUGE, -1, 1, HUGE):
                    getattr(told, name)[at] += by
                    self.assertIs(told.shows(self.words, self.meetings, self.olds), False)
                    getattr(told, name)[at] -= by
                    self.assertIs(told.shows(self.words, self.meetings, self.olds), True)
            getattr(told, name).append(0)
            self.assertIs(told.shows(self.words, self.meetings, self.olds), False)
            setattr(told, name, 0)
            self.assertIs(told.shows(self.words, self.meetings, self.olds), False)
            setattr(told, name, fields[name])
            self.assertIs(told.shows(self.words, self.meetings, self.olds), True)
        self.assertIs(told.shows(self.words, self.meetings, [2, 3]), False)
        self.assertIs(told.shows(self.words[1:], self.meetings, self.olds), True)
        self.assertIs(told.shows(self.words[:1] + self.words[2:], self.meetings, self.olds), False)

    def test_made_up_fields_against_own_sums(self):
        seen = []
        for chance in chances(600):
            many = chance.randint(1, 4)
            words = pool(chance, chance.choice((20, 50, 80)), 6, ("yes", "yes", "maybe"))
            meetings, olds = made_up_meetings(chance, many), made_up_olds(chance, many)
            told = table(words, meetings, olds)
            if isinstance(told, Tight):
                continue
            for _ in range(chance.choice((0, 1, 1, 2))):
                self.change_one(chance, told)
            shown = told.shows(words, meetings, olds)
            self.assertIs(shown, own_sums.moved_is_right(told.hours, told.prices, told.rents, words, meetings, olds))
            seen.append(shown)
        self.assertGreater(min(seen.count(True), seen.count(False)), 50)

    def change_one(self, chance, told):
        at, by = chance.randrange(len(told.hours)), chance.choice((-2, -1, 1))
        hour = told.hours[at]
        kind = chance.randrange(4)
        if kind == 0:
            told.hours[at] += by
        elif kind == 1:
            chance.choice((told.prices, told.rents)).append(0)
        else:
            # As much more for the price as less for the rent leaves the sum as it is.
            told.prices[at] += by
            told.rents[hour] -= by


class TightTest(unittest.TestCase):
    # Three meetings share the hours 3 and 8; the fourth has hours enough.
    words = said([3, 8], [3], [8], [0, 3, 8])
    meetings = alone(0, 1, 2, 3)
    olds = [None, 3, 8, 0]

    def shown(self, chosen, hours):
        return Tight(chosen, hours).shows(self.words, self.meetings, self.olds)

    def test_meetings_and_hours_in_any_turn(self):
        for chosen in itertools.permutations((0, 1, 2)):
            for hours in ([3, 8], [8, 3]):
                self.assertIs(self.shown(list(chosen), hours), True)

    def test_hours_as_often_as_you_like_each_counted_once(self):
        for hours in ([3, 3, 8], [8, 3, 8, 3, 8, 3], [3] * 50 + [8] * 50, [3] * 100000 + [8]):
            self.assertIs(self.shown([0, 1, 2], hours), True)
        self.assertIs(self.shown([0, 1, 2], [3, 3, 8, 8, 9]), False)
        self.assertIs(self.shown([0, 1, 2], [3] * 50), False)

    def test_numbers_that_are_no_hours_are_counted_too(self):
        words, meetings, olds = said([3], [3], [3]), alone(0, 1, 2), [None] * 3
        for more in (-1, 12, 0, 11, HUGE, -HUGE):
            for hours in ([3, more], [more, 3], [more, more, 3, more]):
                self.assertIs(Tight([0, 1, 2], hours).shows(words, meetings, olds), True)
                self.assertIs(Tight([0, 1], hours).shows(words, meetings, olds), False)
                self.assertIs(Tight([0, 1, 2], [*hours, 99]).shows(words, meetings, olds), False)
            self.assertIs(Tight([0, 1, 2], [more]).shows(words, meetings, olds), False)
        self.assertIs(Tight([0, 1], [3]).shows(words, meetings, olds), True)
        self.assertIs(Tight([0, 1], [-9]).shows(words, meetings, olds), False)

    def test_hours_fewer_than_the_meetings(self):
        self.assertIs(self.shown([0, 1], [3, 8]), False)
        self.assertIs(self.shown([1, 2], [3, 8]), False)
        self.assertIs(self.shown([0, 1, 2], [3, 8, 0]), False)
        self.assertIs(self.shown([0, 1, 2, 3], [0, 3, 8]), True)
        self.assertIs(self.shown([0, 1, 2, 3], [0, 3, 8, 9]), False)
        self.assertIs(self.shown([], []), False)
        self.assertIs(self.shown([], [3]), False)
        self.assertIs(self.shown([0], []), False)

    def test_all_hours_of_these_meetings_are_among_them(self):
        for hours in ([3], [8], [3, 9], [], [0, 8], [-3, -8]):
            self.assertIs(self.shown([0, 1, 2], hours), False)
        self.assertIs(self.shown([1, 2, 3], [3, 8]), False)
        self.assertIs(self.shown([0, 1, 3], [3, 8]), False)

    def test_meetings_each_once_and_none_that_is_not_there(self):
        for chosen in ([0, 1, 2, 2], [0, 0, 1], [1, 1], [2, 2, 2], [0, 1, 2, 4], [0, 1, 2, -1], [0, 1, -2],
                       [-4, -3, -2], [0, 1, HUGE], [0, 1, 2, -HUGE], list(range(5)), [0, 1, 2] * 30000):
            self.assertIs(self.shown(chosen, [3, 8]), False)
        self.assertIs(self.shown([1, 1], [3]), False)
        self.assertIs(self.shown([-3, 1], [3]), False)

    def test_a_meeting_with_no_hour(self):
        words, meetings = said([3]), alone(0, 5)
        self.assertIs(Tight([1], []).shows(words, meetings, [None, 4]), True)
        self.assertIs(Tight([0], []).shows(words, meetings, [None, 4]), False)
        self.assertIs(Tight([1], [4]).shows(words, meetings, [None, 4]), False)
        self.assertIs(Tight([0, 1], [3]).shows(words, meetings, [None, 4]), True)
        self.assertIs(Tight([0, 1], [4]).shows(words, meetings, [None, 4]), False)

    def test_no_meetings(self):
        for chosen in ([], [0], [-1], [[]], 0):
            for hours in ([], [0], 0, [[]]):
                self.assertIs(Tight(chosen, hours).shows(self.words, [], []), False)

    def test_other_fields(self):
        more = [True, None, "", [True, 0, 2], [0, None], [0, [1], 2], [[0, 1, 2]], [3, [8]], [[3], [8]], 0, 3]
        for field in [*other_fields(), *more]:
            self.assertIs(self.shown(field, [3, 8]), False)
            self.assertIs(self.shown([0, 1, 2], field), False)
            self.assertIs(self.shown(field, field), False)
        self.assertIs(Tight([0, True], [3]).shows(said([3], [3]), alone(0, 1), [None, None]), False)
        self.assertIs(Tight([0, 1], [True]).shows(said([1], [1]), alone(0, 1), [None, None]), False)

    def test_by_the_fields_as_they_stand_then(self):
        told = table(self.words, self.meetings, self.olds)
        self.assertIsInstance(told, Tight)
        self.assertIs(told.shows(self.words, self.meetings, self.olds), True)
        told.hours.append(10)
        told.hours.append(11)
        self.assertIs(told.shows(self.words, self.meetings, self.olds), False)
        told.hours = [8, 8, 3]
        told.meetings = [2, 1, 0]
        self.assertIs(told.shows(self.words, self.meetings, self.olds), True)
        told.meetings.pop()
        self.assertIs(told.shows(self.words, self.meetings, self.olds), False)
        told.meetings = 3
        self.assertIs(told.shows(self.words, self.meetings, self.olds), False)
        told.meetings = [2, 1, 0]
        self.assertIs(told.shows([*self.words, (99, 0, 1, 5, "yes")], self.meetings, self.olds), False)
        self.assertIs(told.shows([*self.words, (99, 0, 1, 5, "maybe")], self.meetings, self.olds), True)

    def test_made_up_fields_against_own_sums(self):
        seen = []
        for chance in chances(600):
            many = chance.randint(1, 6)
            words = pool(chance, chance.choice((5, 20, 50)), chance.choice((2, 4, 12)))
            meetings, olds = made_up_meetings(chance, many), made_up_olds(chance, many)
            told = table(words, meetings, olds)
            if isinstance(told, Moved):
                told = Tight(list(range(many)), told.hours[1:])
            for _ in range(chance.choice((0, 1, 1, 2))):
                change(chance, chance.choice((told.meetings, told.hours)), 13)
            shown = told.shows(words, meetings, olds)
            self.assertIs(shown, own_sums.tight_is_right(told.meetings, told.hours, words, meetings))
            seen.append(shown)
        self.assertGreater(min(seen.count(True), seen.count(False)), 50)


class StaysTest(unittest.TestCase):
    def test_what_is_handed_in_and_the_fields_stay(self):
        words, meeting = said([4, 6], [6, 2])[::-1] * 2, ((0, 1), 2, (1,))
        meetings, olds = [meeting, *alone(0, 1)], [None, 4, 11]
        tight = [meeting, meeting, *alone(0)]
        for told, asked in (
            (At(6), (words, meeting)), (At(5), (words, meeting)), (first([], meeting), ([], meeting)),
            (Barred([[1, 0]] * 12), (words, meeting)),
            (table(words, meetings, olds), (words, meetings, olds)),
            (Moved([6, 4, 2], [1, 0, 9], BARE), (words, meetings, olds)),
            (table(words, tight, olds), (words, tight, olds)),
            (Tight([1, 0], [6, 6]), (words, tight, olds)),
        ):
            before, fields = copy.deepcopy(asked), copy.deepcopy(vars(told))
            shown = told.shows(*asked)
            self.assertIs(shown.__class__, bool)
            self.assertIs(told.shows(*asked), shown)
            self.assertEqual(asked, before)
            self.assertEqual(vars(told), fields)

    def test_shows_takes_words_in_any_turn_and_alike_ones(self):
        words, meetings, olds = said([2, 5], [2, 9])[::-1] * 3, alone(0, 1), [2, 2]
        self.assertIs(table(words, meetings, olds).shows(words[::2] + words, meetings, olds), True)
        self.assertIs(At(2).shows(words, meetings[0]), True)
