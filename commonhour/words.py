"""Words joined, and the hours at which a meeting can be by them."""

from commonhour.checks import HOURS, MOST_WORDS, check_meeting, checked_words, each_once
from commonhour.errors import TooMany


def joined(one, other):
    """All words of both lists, each once, in order."""
    words = each_once(checked_words(one) + checked_words(other))
    if len(words) > MOST_WORDS:
        raise TooMany("joined, the words are more than eighty")
    return words


def answers_that_count(words):
    """The answer that counts for each person and hour that checked words name."""
    answers = {}
    # Checked words rise by count and hand, so the last one for a person and hour counts.
    for word in words:
        person, hour, answer = word[2:]
        answers[person, hour] = answer
    return answers


def can_be(meeting, hour, answers, coming):
    """Whether enough and all needed give one of the answers in coming."""
    people, enough, needed = meeting
    ready = [person for person in people if answers.get((person, hour), "no") in coming]
    return len(ready) >= enough and all(person in ready for person in needed)


def hours_by(words, meeting, coming):
    answers = answers_that_count(checked_words(words))
    check_meeting(meeting)
    return [hour for hour in range(HOURS) if can_be(meeting, hour, answers, coming)]


def hours(words, meeting):
    """The hours at which the meeting can be, rising."""
    return hours_by(words, meeting, ("yes",))


def hours_maybe(words, meeting):
    """The hours at which the meeting could be if each maybe were a yes, rising."""
    return hours_by(words, meeting, ("yes", "maybe"))
