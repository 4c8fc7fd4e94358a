"""What is told of a meeting or of several, and whether it is so by the words."""

from commonhour.checks import HOURS, is_hour, is_whole
from commonhour.words import answer_of, answers_that_count, hours_of


class Answer:
    """What is told of a meeting, or of several."""


class At(Answer):
    """The first hour at which a meeting can be."""

    def __init__(self, hour):
        self.hour = copied(hour)

    def shows(self, words, meeting):
        """Whether the hour is the first one at which the meeting can be."""
        found = hours_of(meeting, answers_that_count(words))
        return is_hour(self.hour) and found[:1] == [self.hour]


class Barred(Answer):
    """For each of the twelve hours people who bar a meeting."""

    def __init__(self, rows):
        self.rows = copied(rows)

    def shows(self, words, meeting):
        """Whether there is a row for each hour, of people who bar the meeting at it."""
        if not isinstance(self.rows, list) or len(self.rows) != HOURS:
            return False
        answers = answers_that_count(words)
        return all([bars(row, meeting, hour, answers) for hour, row in enumerate(self.rows)])


class Moved(Answer):
    """An hour and a price for each meeting, and a rent for each of the twelve hours."""

    def __init__(self, hours, prices, rents):
        self.hours = copied(hours)
        self.prices = copied(prices)
        self.rents = copied(rents)

    def shows(self, words, meetings, olds):
        """Whether all meetings can be at these hours, and prices and rents show that none are nearer."""
        many = len(meetings)
        if not are_numbers(self.hours) or not are_numbers(self.prices) or not are_numbers(self.rents):
            return False
        if (len(self.hours), len(self.prices), len(self.rents)) != (many, many, HOURS):
            return False
        jumps = jumps_of(words, meetings, olds)
        if not are_own_hours(self.hours, jumps) or not are_bounds(self.prices, self.rents, jumps):
            return False
        told = sum([row[hour] for hour, row in zip(self.hours, jumps)])
        return sum(self.prices) + sum(self.rents) == told


class Tight(Answer):
    """Meetings, and hours, fewer than these, among which are all at which one of them can be."""

    def __init__(self, meetings, hours):
        self.meetings = copied(meetings)
        self.hours = copied(hours)

    def shows(self, words, meetings, olds):
        """Whether these meetings have no hours but these, which are fewer."""
        if not are_numbers(self.meetings) or not are_numbers(self.hours):
            return False
        if not are_each_once(self.meetings) or not all([0 <= at < len(meetings) for at in self.meetings]):
            return False
        listed = sorted(set(self.hours))
        if len(listed) >= len(self.meetings):
            return False
        answers = answers_that_count(words)
        return all([hour in listed for at in self.meetings for hour in hours_of(meetings[at], answers)])


def copied(field):
    """The field itself, or where it is a list a new one, with those within new, too."""
    if not isinstance(field, list):
        return field
    told = list(field)
    # Those still to do stand in a list instead of calls within calls, as lists may go deep.
    rest = [told]
    while rest:
        row = rest.pop()
        for at in range(len(row)):
            if isinstance(row[at], list):
                row[at] = list(row[at])
                rest.append(row[at])
    return told


def are_numbers(field):
    return isinstance(field, list) and all([is_whole(member) for member in field])


def are_each_once(numbers):
    return len(set(numbers)) == len(numbers)


def bars(row, meeting, hour, answers):
    """Whether the row is people, each once, who bar the meeting at the hour."""
    people, enough, needed = meeting
    if not are_numbers(row) or not are_each_once(row):
        return False
    if not all([person in people and answer_of(person, hour, answers) != "yes" for person in row]):
        return False
    return len(row) > len(people) - enough or any([person in needed for person in row])


def jump(hour, old):
    return 0 if old is None else abs(hour - old)


def jumps_of(words, meetings, olds):
    """For each meeting its jump to each hour at which it can be, by the hour."""
    answers = answers_that_count(words)
    return [
        {hour: jump(hour, old) for hour in hours_of(meeting, answers)}
        for meeting, old in zip(meetings, olds)
    ]


def are_own_hours(hours, jumps):
    """Whether each hour is one at which its meeting can be, and no other meeting's."""
    return are_each_once(hours) and all([hour in row for hour, row in zip(hours, jumps)])


def are_bounds(prices, rents, jumps):
    """Whether no rent is above 0, and no price and rent together are above a jump."""
    if any([rent > 0 for rent in rents]):
        return False
    return all([
        price + rents[hour] <= row[hour]
        for price, row in zip(prices, jumps)
        for hour in row
    ])
