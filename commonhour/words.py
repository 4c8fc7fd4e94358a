"""Words joined, and the hours at which a meeting can be by them."""

from commonhour.checks import HOURS, MOST_WORDS, check_meeting, checked_words, each_once
from commonhour.errors import TooMany

YES = ("yes",)
YES_OR_MAYBE = ("yes", "maybe")


def joined(one, other):
    """All words of both lists, each once, in order."""
    words = each_once(checked_words(one) + checked_words(other))
    if len(words) > MOST_WORDS:
        raise TooMany("joined, the words are more than eighty")
    return words


def answers_that_count(words):
    """The answer that counts for each person and hour that the words name."""
    answers = {}
    # Sorted words rise by count and hand, so the last one for a person and hour counts.
    for word in sorted(words):
        person, hour, answer = word[2:]
        answers[person, hour] = answer
    return answers


def answer_of(person, hour, answers):
    """What the person says for the hour; no where there is no word."""
    return answers.get((person, hour), "no")


def can_be(meeting, hour, answers, coming):
    """Whether enough and all needed give one of the answers in coming."""
    people, enough, needed = meeting
    ready = [person for person in people if answer_of(person, hour, answers) in coming]
    return len(ready) >= enough and all(person in ready for person in needed)


def hours_of(meeting, answers, coming=YES):
    """The hours at which a right meeting can be by the answers that count, rising."""
    return [hour for hour in range(HOURS) if can_be(meeting, hour, answers, coming)]


def hours_by(words, meeting, coming):
    answers = answers_that_count(checked_words(words))
    check_meeting(meeting)
    return hours_of(meeting, answers, coming)


def hours(words, meeting):
    """The hours at which the meeting can be, rising."""
    return hours_by(words, meeting, YES)


def hours_maybe(words, meeting):
    """The hours at which the meeting could be if each maybe were a yes, rising."""
    return hours_by(words, meeting, YES_OR_MAYBE)
