"""What the document tells, reckoned anew in the plainest way, without the program."""

import itertools


def answer_of(words, person, hour):
    said = [word for word in words if word[2:4] == (person, hour)]
    return max(said)[4] if said else "no"


def can_be(words, meeting, hour):
    people, enough, needed = meeting
    ready = {person for person in people if answer_of(words, person, hour) == "yes"}
    return len(ready) >= enough and set(needed) <= ready


def hours_one_by_one(words, meeting):
    return [hour for hour in range(12) if can_be(words, meeting, hour)]


def bars(words, meeting, hour, row):
    people, enough, needed = meeting
    against = [person for person in people if answer_of(words, person, hour) != "yes"]
    if sorted(set(row)) != sorted(row) or not set(row) <= set(against):
        return False
    return len(row) > len(people) - enough or bool(set(row) & set(needed))


def at_is_right(hour, words, meeting):
    return hours_one_by_one(words, meeting)[:1] == [hour]


def barred_is_right(rows, words, meeting):
    return len(rows) == 12 and all(bars(words, meeting, hour, rows[hour]) for hour in range(12))


def jump(hour, old):
    return 0 if old is None else max(hour, old) - min(hour, old)


def jumps_together(hours, olds):
    return sum(jump(hour, old) for hour, old in zip(hours, olds))


def are_a_table(hours, words, meetings):
    """Whether all the meetings can be at these hours in one room."""
    if len(hours) != len(meetings) or len(set(hours)) < len(hours):
        return False
    return all(hour in hours_one_by_one(words, meeting) for hour, meeting in zip(hours, meetings))


def moved_is_right(hours, prices, rents, words, meetings, olds):
    if not are_a_table(hours, words, meetings):
        return False
    if len(prices) != len(meetings) or len(rents) != 12 or max(rents) > 0:
        return False
    for price, meeting, old in zip(prices, meetings, olds):
        for hour in hours_one_by_one(words, meeting):
            if price + rents[hour] > jump(hour, old):
                return False
    return sum(prices) + sum(rents) == jumps_together(hours, olds)


def tight_is_right(chosen, hours, words, meetings):
    if len(set(chosen)) < len(chosen) or not set(chosen) <= set(range(len(meetings))):
        return False
    needed = {hour for at in chosen for hour in hours_one_by_one(words, meetings[at])}
    return needed <= set(hours) and len(set(hours)) < len(chosen)


def least_jumps(words, meetings, olds):
    """The least jumps of all tables, one table after the other; None where there is none."""
    choices = [hours_one_by_one(words, meeting) for meeting in meetings]
    sums = [
        jumps_together(hours, olds)
        for hours in itertools.product(*choices) if len(set(hours)) == len(hours)
    ]
    return min(sums, default=None)


def least_jumps_of_many(words, meetings, olds):
    """The same for up to six meetings: the least jumps for each set of hours that is taken."""
    sums = {frozenset(): 0}
    for meeting, old in zip(meetings, olds):
        more = {}
        for taken, total in sums.items():
            for hour in hours_one_by_one(words, meeting):
                if hour not in taken:
                    key = taken | {hour}
                    more[key] = min(more.get(key, total + jump(hour, old)), total + jump(hour, old))
        sums = more
    return min(sums.values(), default=None)
