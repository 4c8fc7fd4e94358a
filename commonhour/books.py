"""A book of a hand: words put into it and heard."""

from commonhour.checks import COUNTS, MOST_WORDS, check_answer, check_hand, check_hour, check_person
from commonhour.errors import TooMany
from commonhour.words import answer_of, answers_that_count, joined


class Book:
    """The words that a hand knows, each once and in order."""

    def __init__(self, hand):
        check_hand(hand)
        self._hand = hand
        self._known = []

    def answer(self, person, hour, word):
        """Put a person's answer for an hour in, and tell its count."""
        check_person(person)
        check_hour(hour)
        check_answer(word)
        # Words are in order, so the last one has the greatest count.
        count = self._known[-1][0] + 1 if self._known else 1
        if count > COUNTS or len(self._known) >= MOST_WORDS:
            raise TooMany("a book knows at most eighty words, with counts up to 99")
        self._known.append((count, self._hand, person, hour, word))
        return count

    def hear(self, words):
        """Join words to those known, and tell how many are new."""
        known = joined(self._known, words)
        new = len(known) - len(self._known)
        self._known = known
        return new

    def all_words(self):
        """All words known, in order."""
        return list(self._known)

    def says(self, person, hour):
        """What the person says for the hour, by the words known."""
        check_person(person)
        check_hour(hour)
        return answer_of(person, hour, answers_that_count(self._known))
