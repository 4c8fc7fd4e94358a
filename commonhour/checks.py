"""Checks of what is handed in, refused where it is not what it should be."""

from commonhour.errors import BadHand, BadHour, BadMeeting, BadOlds, BadPerson, BadWord, BadWords, Unlike

MOST_WORDS = 80
MOST_MEETINGS = 6
COUNTS = 99
HANDS = 4
PEOPLE = 8
HOURS = 12
ANSWERS = ("yes", "maybe", "no")


def is_whole(value):
    # True and False are integers to Python, but no numbers here.
    return isinstance(value, int) and not isinstance(value, bool)


def is_number(value, least, most):
    return is_whole(value) and least <= value <= most


def is_hand(value):
    return is_number(value, 0, HANDS - 1)


def is_person(value):
    return is_number(value, 0, PEOPLE - 1)


def is_hour(value):
    return is_number(value, 0, HOURS - 1)


def is_answer(value):
    # The kind first: a strange object may claim to be equal to any text.
    return isinstance(value, str) and value in ANSWERS


def is_word(value):
    if not isinstance(value, tuple) or len(value) != 5:
        return False
    count, hand, person, hour, answer = value
    return (
        is_number(count, 1, COUNTS)
        and is_hand(hand)
        and is_person(person)
        and is_hour(hour)
        and is_answer(answer)
    )


def copied_words(words):
    """The words in a new list, or BadWords."""
    if not isinstance(words, list) or len(words) > MOST_WORDS:
        raise BadWords("words are a list of at most eighty words")
    copies = []
    for word in words:
        if not is_word(word):
            raise BadWords("a word is a count, a hand, a person, an hour and an answer")
        count, hand, person, hour, answer = word
        copies.append((count, hand, person, hour, answer))
    return copies


def each_once(words):
    """Of right words each once, in order, or Unlike."""
    known = {}
    for word in words:
        place = word[:2]
        if known.setdefault(place, word) != word:
            raise Unlike("two words of one count and hand are unlike")
    return sorted(known.values())


def checked_words(words):
    """The words each once, in order and in a new list, or BadWords, or Unlike."""
    return each_once(copied_words(words))


def is_people(value):
    """Whether it is a rising tuple of people; an empty one is, too."""
    if not isinstance(value, tuple):
        return False
    before = -1
    for person in value:
        # Each one is above the one before it, so none is there twice.
        if not is_number(person, before + 1, PEOPLE - 1):
            return False
        before = person
    return True


def is_meeting(value):
    if not isinstance(value, tuple) or len(value) != 3:
        return False
    people, enough, needed = value
    if not is_people(people) or not is_number(enough, 1, len(people)):
        return False
    return is_people(needed) and all(person in people for person in needed)


def check_meeting(meeting):
    if not is_meeting(meeting):
        raise BadMeeting("a meeting is its people, how many are enough, and needed ones")


def check_meetings(meetings):
    if not isinstance(meetings, list) or len(meetings) > MOST_MEETINGS:
        raise BadMeeting("meetings are a list of at most six meetings")
    for meeting in meetings:
        check_meeting(meeting)


def check_olds(olds, many):
    """BadOlds where olds is no list of an hour or None for each of so many meetings."""
    if not isinstance(olds, list) or len(olds) != many:
        raise BadOlds("olds are a list with one for each meeting")
    for old in olds:
        if old is not None and not is_hour(old):
            raise BadOlds("an old one is an hour or None")


def check_hand(hand):
    if not is_hand(hand):
        raise BadHand("a hand is a number from 0 to 3")


def check_person(person):
    if not is_person(person):
        raise BadPerson("a person is a number from 0 to 7")


def check_hour(hour):
    if not is_hour(hour):
        raise BadHour("an hour is a number from 0 to 11")


def check_answer(answer):
    if not is_answer(answer):
        raise BadWord("an answer is yes, maybe or no")
