"""Checks of what is handed in: words and meetings, refused where they are none."""

from commonhour.errors import BadMeeting, BadWords, Unlike

MOST_WORDS = 80
COUNTS = 99
HANDS = 4
PEOPLE = 8
HOURS = 12
ANSWERS = ("yes", "maybe", "no")


def is_number(value, least, most):
    # True and False are integers to Python, but no numbers here.
    if not isinstance(value, int) or isinstance(value, bool):
        return False
    return least <= value <= most


def is_answer(value):
    # The kind first: a strange object may claim to be equal to any text.
    return isinstance(value, str) and value in ANSWERS


def is_word(value):
    if not isinstance(value, tuple) or len(value) != 5:
        return False
    count, hand, person, hour, answer = value
    return (
        is_number(count, 1, COUNTS)
        and is_number(hand, 0, HANDS - 1)
        and is_number(person, 0, PEOPLE - 1)
        and is_number(hour, 0, HOURS - 1)
        and is_answer(answer)
    )


def copied_words(words):
    """The words in a new list, or BadWords."""
    if not isinstance(words, list) or len(words) > MOST_WORDS:
        raise BadWords("words are a list of at most eighty words")
    copies = []
    for word in words:
        if not is_word(word):
            raise BadWords("a word is a count, a hand, a person, an hour and an answer")
        count, hand, person, hour, answer = word
        copies.append((count, hand, person, hour, answer))
    return copies


def each_once(words):
    """Of right words each once, in order, or Unlike."""
    known = {}
    for word in words:
        place = word[:2]
        if known.setdefault(place, word) != word:
            raise Unlike("two words of one count and hand are unlike")
    return sorted(known.values())


def checked_words(words):
    """The words each once, in order and in a new list, or BadWords, or Unlike."""
    return each_once(copied_words(words))


def is_people(value):
    """Whether it is a rising tuple of people; an empty one is, too."""
    if not isinstance(value, tuple):
        return False
    before = -1
    for person in value:
        # Each one is above the one before it, so none is there twice.
        if not is_number(person, before + 1, PEOPLE - 1):
            return False
        before = person
    return True


def is_meeting(value):
    if not isinstance(value, tuple) or len(value) != 3:
        return False
    people, enough, needed = value
    if not is_people(people) or not is_number(enough, 1, len(people)):
        return False
    return is_people(needed) and all(person in people for person in needed)


def check_meeting(meeting):
    if not is_meeting(meeting):
        raise BadMeeting("a meeting is its people, how many are enough, and needed ones")
