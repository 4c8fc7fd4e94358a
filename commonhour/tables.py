"""An hour for a meeting or for several, or what shows that there is none."""

from commonhour.answers import At, Barred, Moved, Tight, jumps_of
from commonhour.checks import HOURS, check_meeting, check_meetings, check_olds, checked_words
from commonhour.words import answer_of, answers_that_count, hours_of


def not_coming(meeting, hour, answers):
    """Its people who don't say yes for the hour."""
    people = meeting[0]
    return [person for person in people if answer_of(person, hour, answers) != "yes"]


def first(words, meeting):
    """The first hour at which the meeting can be, or for each hour those who bar it."""
    answers = answers_that_count(checked_words(words))
    check_meeting(meeting)
    found = hours_of(meeting, answers)
    if found:
        return At(found[0])
    # Where it can't be, those who don't say yes are too many or a needed one is among
    # them, so all of them together bar it.
    return Barred([not_coming(meeting, hour, answers) for hour in range(HOURS)])


class Seats:
    """Meetings seated at hours of their own, with prices and rents that show them nearest.

    No price and rent together are ever above a jump, a seated meeting's are just its
    jump, rents are 0 at the most, and the rent of an hour that nobody holds is 0.
    """

    def __init__(self, jumps):
        self.jumps = jumps
        self.hours = [None for _ in jumps]
        self.prices = [0 for _ in jumps]
        self.rents = [0 for _ in range(HOURS)]
        self.holders = {}

    def gap(self, meeting, hour):
        """By how much price and rent may still grow."""
        return self.jumps[meeting][hour] - self.prices[meeting] - self.rents[hour]

    def ways(self, asking, reached):
        """From the asking meetings to hours not yet reached: gap, hour and meeting."""
        return [
            (self.gap(meeting, hour), hour, meeting)
            for meeting in asking
            for hour in self.jumps[meeting]
            if hour not in reached
        ]

    def raise_prices(self, asking, reached, step):
        for meeting in asking:
            self.prices[meeting] += step
        # What the price of a holder gains its hour gives, so it still is just the jump.
        for hour in reached:
            self.rents[hour] -= step

    def hand_on(self, hour, reached):
        """Seat the one that reached the hour there, its own hour's one at that, and so on."""
        while hour is not None:
            meeting = reached[hour]
            left = self.hours[meeting]
            self.hours[meeting] = hour
            self.holders[hour] = meeting
            hour = left

    def seat(self, newcomer):
        """None when the newcomer has a seat, too, or a Tight when there is none for it."""
        asking = [newcomer]
        reached = {}
        while True:
            ways = self.ways(asking, reached)
            if not ways:
                # Each hour reached has a holder that asks, and the newcomer asks, too.
                return Tight(sorted(asking), sorted(reached))
            step, hour, meeting = min(ways)
            self.raise_prices(asking, reached, step)
            reached[hour] = meeting
            if hour not in self.holders:
                self.hand_on(hour, reached)
                return None
            asking.append(self.holders[hour])


def table(words, meetings, olds):
    """Hours of their own for all meetings, nearest to the olds, or meetings that have too few."""
    known = checked_words(words)
    check_meetings(meetings)
    check_olds(olds, len(meetings))
    seats = Seats(jumps_of(known, meetings, olds))
    for newcomer in range(len(meetings)):
        tight = seats.seat(newcomer)
        if tight is not None:
            return tight
    return Moved(seats.hours, seats.prices, seats.rents)
