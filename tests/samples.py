"""Inputs that several tests hand in: right ones made from a seed, and wrong ones."""

import random

ANSWERS = ("yes", "maybe", "no")

# None of these is a list, a tuple, a number or an answer.
STRANGE = (
    None,
    "",
    "words",
    b"yes",
    {},
    {"yes": 1},
    set(),
    frozenset(),
    range(3),
    object(),
    int,
    len,
    NotImplemented,
    1j,
)


class Agreeable:
    """Says that it is equal to all, and can't be a member of a set."""

    __hash__ = None

    def __eq__(self, other):
        return True


class Touchy:
    """Can't be compared, measured, shown or hashed."""

    __hash__ = None

    def __eq__(self, other):
        raise RuntimeError("compared")

    def __len__(self):
        raise RuntimeError("measured")

    def __repr__(self):
        raise RuntimeError("shown")


ODD = (*STRANGE, Agreeable(), Touchy())


def word_at(place, person=0, hour=0, answer="yes"):
    """A word whose count and hand belong to a place from 0 to 395."""
    return (place // 4 + 1, place % 4, person, hour, answer)


def distinct(many, first=0):
    """So many words of unlike counts and hands, in order."""
    return [
        word_at(place, place % 8, place % 12, ANSWERS[place % 3])
        for place in range(first, first + many)
    ]


def pool(chance, many, hours=12, answers=ANSWERS):
    """So many words that can be joined, in any turn."""
    return [
        word_at(place, chance.randrange(8), chance.randrange(hours), chance.choice(answers))
        for place in chance.sample(range(396), many)
    ]


def chances(many):
    """Sources of made-up inputs, the same ones in each run."""
    return [random.Random(seed) for seed in range(many)]


def wrong_numbers(least, most):
    """What is no number from least to most."""
    below_and_above = (least - 1, most + 1, -(10 ** 30), 10 ** 30, -most - 1)
    return [*below_and_above, True, False, "1", [], [1], (), (1,), *ODD]


def wrong_words():
    """What is no word, at each of its places and as a whole."""
    count, hand, person, hour, answer = (1, 1, 1, 1, "yes")
    found = [[], [count, hand, person, hour, answer], 0, 1, True, *ODD]
    found += [(), (1,), (count, hand, person, hour), (count, hand, person, hour, answer, 1)]
    found += [(count, hand, person, hour, answer, None), ((count, hand, person, hour, answer),)]
    found += [(worth, hand, person, hour, answer) for worth in wrong_numbers(1, 99)]
    found += [(count, worth, person, hour, answer) for worth in wrong_numbers(0, 3)]
    found += [(count, hand, worth, hour, answer) for worth in wrong_numbers(0, 7)]
    found += [(count, hand, person, worth, answer) for worth in wrong_numbers(0, 11)]
    others = ("Yes", "YES", " yes", "yes ", "y", "perhaps", "nono", 0, 1, True, False)
    found += [(count, hand, person, hour, worth) for worth in (*others, [], ["yes"], ("yes",), *ODD)]
    return found


def wrong_lists_of_words():
    """What is no list of words: no list, too long a list, or a wrong word in it."""
    good = distinct(40, 100)
    found = [(), tuple(good), 0, 1, True, False, (1, 0, 0, 0, "yes"), *ODD]
    found += [distinct(81), good + good + good[:1], [good[0]] * 81, good * 50, [None] * 81]
    found += [[good], [good[0], good]]
    for word in wrong_words():
        found += [[word], [word, *good], [*good[:20], word, *good[20:]], [*good, word]]
    found.append(distinct(79, 8) + [(1, 0, 0, 0, "never")])
    return found


def wrong_meetings():
    """What is no meeting, at each of its places and as a whole."""
    people, enough, needed = ((1, 3, 5), 2, (3,))
    found = [(), (people,), (people, enough), (people, enough, needed, ()), [], 0, 1, True, *ODD]
    found += [[people, enough, needed], (people, needed, enough), (enough, people, needed)]
    found += [((), 0, ()), ((), 1, ())]
    not_rising = [(3, 1, 5), (1, 5, 3), (5, 3, 1), (1, 1, 3), (1, 3, 3), (1, 3, 5, 5)]
    not_rising += [(7, 7), (0, 0), (0, 1, 2, 3, 4, 5, 6, 7, 7)]
    found += [(worth, 1, ()) for worth in (*not_rising, *wrong_tuples_of_people())]
    found += [(people, worth, needed) for worth in wrong_numbers(1, len(people))]
    found += [((2,), 2, ()), (tuple(range(8)), 9, ()), ((0,), False, ()), ((0,), True, ())]
    found += [(people, enough, worth) for worth in (*not_rising, *wrong_tuples_of_people())]
    found += [(people, enough, (0,)), (people, enough, (1, 2)), (people, enough, (1, 3, 5, 7))]
    found += [((0, 2), 1, (1,)), (people, enough, (5, 3)), (people, enough, (3, 3))]
    return found


def wrong_tuples_of_people():
    found = [[1, 3], [], 0, 3, True, False, *ODD]
    for worth in wrong_numbers(0, 7):
        found += [(worth,), (worth, 3), (1, worth), (1, 3, worth)]
    return found


def unlike_words():
    """Pairs of unlike words of one count and hand: by person, by hour, by answer."""
    word = (5, 2, 3, 4, "yes")
    return [
        (word, (5, 2, 6, 4, "yes")),
        (word, (5, 2, 3, 9, "yes")),
        (word, (5, 2, 3, 4, "maybe")),
        (word, (5, 2, 3, 4, "no")),
        ((5, 2, 3, 4, "no"), (5, 2, 3, 4, "maybe")),
        (word, (5, 2, 0, 0, "no")),
    ]


def made_up_meeting(chance):
    people = tuple(sorted(chance.sample(range(8), chance.randint(1, 8))))
    needed = tuple(person for person in people if chance.random() < 0.2)
    return people, chance.randint(1, len(people)), needed


def made_up_meetings(chance, many):
    """So many meetings, some with hours of their own, some that share theirs."""
    found = []
    for _ in range(many):
        person = chance.randrange(8)
        easy = ((person,), 1, chance.choice(((), (person,))))
        found.append(chance.choice((easy, easy, made_up_meeting(chance))))
    return found


def made_up_olds(chance, many):
    return [chance.choice((None, *range(12), *range(12))) for _ in range(many)]


def said(*rows):
    """Words by which the person of each row's place says yes at just the hours of the row."""
    pairs = [(person, hour) for person, row in enumerate(rows) for hour in row]
    return [word_at(place, person, hour) for place, (person, hour) in enumerate(pairs)]


def alone(*people):
    """A meeting for each of these people alone."""
    return [((person,), 1, ()) for person in people]


def wrong_lists_of_meetings():
    """What is no list of at most six meetings."""
    good = ((0, 1), 1, ())
    found = [good, (good,), (), 0, 1, True, False, *ODD, [[good]], [good] * 7, [good] * 50, [None] * 7]
    for meeting in wrong_meetings():
        found += [[meeting], [meeting, good], [good, meeting], [good] * 5 + [meeting]]
    return found


def wrong_olds(many):
    """What is no list of an hour or None for each of so many meetings."""
    good = [None, 0, 11, 5, None, 7][:many]
    found = [tuple(good), 0, 1, many, True, False, *ODD, good + [None], good + [0], [None] * 50]
    if many:
        found += [[], good[1:], [good]]
    for worth in wrong_numbers(0, 11):
        # None stands among what is no number, but as an old one it is right.
        if worth is not None:
            found += [good[:at] + [worth] + good[at + 1:] for at in range(many)]
    return found
