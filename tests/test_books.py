import copy
import itertools
import unittest

from commonhour.answers import At
from commonhour.books import Book
from commonhour.errors import (
    BadHand, BadHour, BadPerson, BadWord, BadWords, HourError, TooMany, Unlike,
)
from commonhour.tables import first
from commonhour.words import hours, joined
from tests import own_sums
from tests.samples import (
    ANSWERS, ODD, chances, distinct, pool, unlike_words, word_at, wrong_lists_of_words, wrong_numbers,
)

WRONG_ANSWERS = ["Yes", "NO", " yes", "no ", "y", "", "mayb", "nono", 0, 1, True, False, [], ["yes"], ("yes",), *ODD]


def book_that_heard(words, hand=0):
    book = Book(hand)
    book.hear(words)
    return book


class BookTest(unittest.TestCase):
    def test_at_first_it_knows_none(self):
        for hand in range(4):
            book = Book(hand)
            self.assertEqual(book.all_words(), [])
            self.assertEqual({book.says(person, hour) for person in range(8) for hour in range(12)}, {"no"})

    def test_an_answer_is_put_in_with_its_hand_and_the_next_count(self):
        for hand in range(4):
            book = Book(hand)
            self.assertEqual(book.answer(3, 7, "yes"), 1)
            self.assertEqual(book.all_words(), [(1, hand, 3, 7, "yes")])
            self.assertEqual(book.answer(0, 0, "maybe"), 2)
            self.assertEqual(book.answer(7, 11, "no"), 3)
            told = [(1, hand, 3, 7, "yes"), (2, hand, 0, 0, "maybe"), (3, hand, 7, 11, "no")]
            self.assertEqual(book.all_words(), told)
            self.assertIs(book.answer(1, 1, "no").__class__, int)

    def test_each_person_hour_and_answer(self):
        for person, hour in itertools.product(range(8), range(12)):
            book = Book(2)
            for count, answer in enumerate((*ANSWERS, *ANSWERS), 1):
                self.assertEqual(book.answer(person, hour, answer), count)
                self.assertEqual(book.says(person, hour), answer)
                self.assertEqual(book.all_words()[-1], (count, 2, person, hour, answer))

    def test_the_same_answer_again_is_a_new_word(self):
        book = Book(1)
        self.assertEqual([book.answer(4, 4, "yes") for _ in range(3)], [1, 2, 3])
        self.assertEqual(len(book.all_words()), 3)

    def test_the_count_is_one_more_than_the_greatest_it_knows_of_any_hand(self):
        book = Book(0)
        self.assertEqual(book.hear([(7, 3, 1, 1, "yes"), (2, 0, 1, 2, "no")]), 2)
        self.assertEqual(book.answer(5, 5, "yes"), 8)
        self.assertEqual(book.hear([(8, 1, 0, 0, "yes"), (3, 0, 0, 1, "yes")]), 2)
        self.assertEqual(book.answer(5, 5, "no"), 9)
        self.assertEqual(book.all_words(), [
            (2, 0, 1, 2, "no"), (3, 0, 0, 1, "yes"), (7, 3, 1, 1, "yes"), (8, 0, 5, 5, "yes"),
            (8, 1, 0, 0, "yes"), (9, 0, 5, 5, "no"),
        ])

    def test_counts_are_numbers_and_in_order(self):
        book = book_that_heard([(9, 0, 1, 1, "yes"), (10, 0, 1, 1, "no"), (2, 3, 1, 1, "maybe")])
        self.assertEqual(book.says(1, 1), "no")
        self.assertEqual(book.answer(1, 1, "maybe"), 11)
        self.assertEqual([word[0] for word in book.all_words()], [2, 9, 10, 11])

    def test_what_a_person_says(self):
        book = Book(1)
        book.answer(2, 3, "yes")
        book.answer(2, 4, "maybe")
        book.answer(5, 3, "maybe")
        said = {(2, 3): "yes", (2, 4): "maybe", (5, 3): "maybe"}
        for person, hour in itertools.product(range(8), range(12)):
            self.assertEqual(book.says(person, hour), said.get((person, hour), "no"))
        book.answer(2, 3, "no")
        self.assertEqual(book.says(2, 3), "no")
        # A late word of an earlier count changes nothing, one of a greater hand does.
        self.assertEqual(book.hear([(3, 0, 2, 3, "yes"), (4, 0, 2, 3, "yes")]), 2)
        self.assertEqual(book.says(2, 3), "no")
        self.assertEqual(book.hear([(4, 2, 2, 3, "maybe")]), 1)
        self.assertEqual(book.says(2, 3), "maybe")

    def test_hear_tells_how_many_are_new(self):
        book, words = Book(0), distinct(6)
        self.assertEqual(book.hear([]), 0)
        self.assertEqual(book.hear(words[:3]), 3)
        self.assertEqual(book.hear(words[:3]), 0)
        self.assertEqual(book.hear(words[::-1]), 3)
        self.assertEqual(book.hear(words * 3), 0)
        self.assertEqual(book.hear([]), 0)
        self.assertEqual(book.all_words(), words)
        self.assertEqual(Book(0).hear([words[0]] * 80), 1)
        self.assertEqual(Book(0).hear([words[1], words[0], words[1]]), 2)
        self.assertIs(book.hear([]).__class__, int)
        self.assertIs(book.hear(distinct(1, 50)).__class__, int)

    def test_all_that_it_knows_in_order(self):
        for chance in chances(40):
            words, book, new = pool(chance, chance.randrange(81)), Book(chance.randrange(4)), 0
            known = []
            for at in range(0, len(words), 7):
                part = words[at:at + 7] + chance.choices(words, k=3)
                new += book.hear(part)
                known = joined(known, part)
                self.assertEqual(book.all_words(), known)
                self.assertEqual(new, len(known))
            for person, hour in itertools.product(range(8), range(12)):
                self.assertEqual(book.says(person, hour), own_sums.answer_of(words, person, hour))

    def test_books_that_hear_each_other_in_any_turn_know_the_same(self):
        for chance in chances(30):
            books = [Book(hand) for hand in range(4)]
            for _ in range(60):
                book, other = chance.sample(books, 2)
                if chance.random() < 0.5 and len(joined(book.all_words(), other.all_words())) < 60:
                    book.answer(chance.randrange(8), chance.randrange(3), chance.choice(ANSWERS))
                    self.assertEqual(book.all_words()[-1][1], books.index(book))
                elif chance.random() < 0.3:
                    book.hear(other.all_words())
            all_words = sorted({word for book in books for word in book.all_words()})
            if len(all_words) > 80:
                continue
            pairs = list(itertools.permutations(range(4), 2))
            chance.shuffle(pairs)
            for one, other in pairs * 2:
                books[one].hear(books[other].all_words())
            for book in books:
                self.assertEqual(book.all_words(), all_words)
                for person, hour in itertools.product(range(8), range(3)):
                    self.assertEqual(book.says(person, hour), own_sums.answer_of(all_words, person, hour))

    def test_a_count_of_99_is_the_last(self):
        book = book_that_heard([(98, 3, 0, 0, "yes")])
        self.assertEqual(book.answer(1, 1, "yes"), 99)
        before = book.all_words()
        with self.assertRaises(TooMany):
            book.answer(1, 1, "no")
        self.assertEqual(book.all_words(), before)
        self.assertEqual(book.says(1, 1), "yes")
        # It may still hear words of such a count, and of lower ones.
        self.assertEqual(book.hear([(99, 3, 1, 1, "no"), (1, 0, 2, 2, "yes")]), 2)
        self.assertEqual(book.says(1, 1), "no")
        with self.assertRaises(TooMany):
            book_that_heard([(99, 0, 0, 0, "no")]).answer(0, 0, "yes")

    def test_eighty_words_are_the_most(self):
        book = book_that_heard(distinct(79))
        self.assertEqual(book.answer(1, 1, "maybe"), 21)
        before = book.all_words()
        self.assertEqual(len(before), 80)
        with self.assertRaises(TooMany):
            book.answer(1, 1, "yes")
        with self.assertRaises(TooMany):
            book.hear(distinct(1, 100))
        with self.assertRaises(TooMany):
            book.hear(before[:79] + distinct(1, 100))
        self.assertEqual(book.all_words(), before)
        self.assertEqual(book.says(1, 1), "maybe")
        self.assertEqual(book.hear(before), 0)
        self.assertEqual(book.hear(before[::-1]), 0)
        book = Book(0)
        self.assertEqual([book.answer(place % 8, place % 12, "yes") for place in range(80)], list(range(1, 81)))
        with self.assertRaises(TooMany):
            book.answer(0, 0, "yes")
        self.assertEqual(len(book.all_words()), 80)

    def test_hearing_just_eighty_and_one_more(self):
        for known in (0, 1, 40, 79, 80):
            book = book_that_heard(distinct(known))
            self.assertEqual(book.hear(distinct(80 - known, known)), 80 - known)
            self.assertEqual(book.all_words(), distinct(80))
            book = book_that_heard(distinct(known))
            if known:
                with self.assertRaises(TooMany):
                    book.hear(distinct(81 - known, known))
                self.assertEqual(book.all_words(), distinct(known))

    def test_books_are_apart(self):
        one, other = Book(0), Book(0)
        one.answer(1, 1, "yes")
        self.assertEqual(other.all_words(), [])
        self.assertEqual(other.answer(2, 2, "yes"), 1)
        self.assertEqual(one.says(2, 2), "no")

    def test_lists_are_the_askers_own(self):
        words = distinct(5)
        book = book_that_heard(words)
        told = book.all_words()
        self.assertIs(told.__class__, list)
        self.assertTrue(all(word.__class__ is tuple for word in told))
        told.clear()
        words.clear()
        self.assertEqual(book.all_words(), distinct(5))
        book.all_words().append((1, 0, 1, 1, "changed"))
        self.assertEqual(book.all_words(), distinct(5))
        told = book.all_words()
        book.answer(1, 1, "yes")
        self.assertEqual(told, distinct(5))
        Book(0).all_words().append(1)
        self.assertEqual(Book(0).all_words(), [])

    def test_what_is_heard_stays(self):
        left, right = unlike_words()[0]
        for words in (distinct(9)[::-1] * 2, [left, right], [left, None], distinct(80, 8)[::-1]):
            book, before = book_that_heard(distinct(2)), copy.deepcopy(words)
            try:
                book.hear(words)
            except HourError:
                pass
            self.assertEqual(words, before)

    def test_deed_by_deed_with_meetings(self):
        one, other, meeting = Book(0), Book(1), ((2, 4), 2, ())
        one.answer(2, 5, "yes")
        other.answer(4, 5, "maybe")
        one.hear(other.all_words())
        self.assertEqual(hours(one.all_words(), meeting), [])
        one.answer(4, 5, "yes")
        self.assertEqual(hours(one.all_words(), meeting), [5])
        other.hear(one.all_words())
        told = first(other.all_words(), meeting)
        self.assertIsInstance(told, At)
        self.assertEqual(told.hour, 5)


class WrongTest(unittest.TestCase):
    def refused(self, refusal, asked, *handed):
        with self.assertRaises(refusal) as caught:
            asked(*handed)
        self.assertIs(caught.exception.__class__, refusal)
        self.assertIsInstance(caught.exception, HourError)

    def books(self):
        """Books that know none, some, a count of 99, and eighty."""
        some = distinct(9)
        full = [book_that_heard([*some, (99, 1, 0, 0, "no")]), book_that_heard(distinct(80))]
        return [Book(3), book_that_heard(some), *full]

    def test_wrong_hands(self):
        for hand in wrong_numbers(0, 3):
            self.refused(BadHand, Book, hand)

    def test_wrong_persons_hours_and_answers_and_nothing_changed(self):
        for book in self.books():
            before = book.all_words()
            for person in wrong_numbers(0, 7):
                self.refused(BadPerson, book.answer, person, 0, "yes")
                self.refused(BadPerson, book.answer, person, 12, "never")
                self.refused(BadPerson, book.answer, person, 0, "never")
                self.refused(BadPerson, book.answer, person, None, "yes")
                self.refused(BadPerson, book.says, person, 0)
                self.refused(BadPerson, book.says, person, 12)
            for hour in wrong_numbers(0, 11):
                self.refused(BadHour, book.answer, 0, hour, "yes")
                self.refused(BadHour, book.answer, 7, hour, "never")
                self.refused(BadHour, book.says, 0, hour)
            for word in WRONG_ANSWERS:
                self.refused(BadWord, book.answer, 0, 0, word)
                self.refused(BadWord, book.answer, 7, 11, word)
            self.assertEqual(book.all_words(), before)

    def test_a_refused_answer_takes_no_count(self):
        book = Book(2)
        self.refused(BadWord, book.answer, 0, 0, "never")
        self.refused(BadHour, book.answer, 0, 12, "yes")
        self.assertEqual(book.answer(0, 0, "yes"), 1)
        self.refused(BadPerson, book.answer, 8, 0, "yes")
        self.assertEqual(book.answer(0, 0, "yes"), 2)

    def test_too_many_goes_last(self):
        for book in self.books()[2:]:
            before = book.all_words()
            self.refused(TooMany, book.answer, 0, 0, "yes")
            self.refused(BadPerson, book.answer, 8, 0, "yes")
            self.refused(BadHour, book.answer, 0, 12, "yes")
            self.refused(BadWord, book.answer, 0, 0, "never")
            self.assertEqual(book.all_words(), before)

    def test_hearing_wrong_words(self):
        for book in self.books():
            before = book.all_words()
            for words in wrong_lists_of_words():
                self.refused(BadWords, book.hear, words)
            self.assertEqual(book.all_words(), before)

    def test_hearing_unlike_words(self):
        for left, right in unlike_words():
            for known in ([], distinct(9), [left], [right]):
                book = book_that_heard(known, 2)
                before = book.all_words()
                self.refused(Unlike, book.hear, [left, right])
                self.refused(Unlike, book.hear, [right, *distinct(9), left])
                self.assertEqual(book.all_words(), before)
            book = book_that_heard([left, *distinct(9)])
            before = book.all_words()
            self.refused(Unlike, book.hear, [right])
            self.refused(Unlike, book.hear, [*distinct(9, 40), right])
            self.assertEqual(book.all_words(), before)

    def test_unlike_words_of_the_book_itself(self):
        book = Book(2)
        book.answer(1, 1, "yes")
        self.refused(Unlike, book.hear, [(1, 2, 1, 1, "no")])
        self.assertEqual(book.hear([(1, 2, 1, 1, "yes"), (1, 3, 1, 1, "no")]), 1)
        self.assertEqual(book.says(1, 1), "no")

    def test_the_refusal_told_first_goes_first_in_hearing(self):
        left, right = unlike_words()[0]
        book = book_that_heard([left, *distinct(79, 40)])
        before = book.all_words()
        self.refused(BadWords, book.hear, [right, None])
        self.refused(BadWords, book.hear, [left, right, None])
        self.refused(BadWords, book.hear, distinct(81, 200))
        self.refused(Unlike, book.hear, [*distinct(30, 200), right])
        self.refused(Unlike, book.hear, [word_at(300, 1), word_at(300, 2)])
        self.refused(TooMany, book.hear, distinct(1, 200))
        self.assertEqual(book.all_words(), before)
