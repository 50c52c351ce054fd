"""Points 12, 13 and 14: rows, their crossings, how they begin and end, and their words."""

import unittest
from itertools import permutations, product

from strandsplaited.rows import (crossings, ends, followed, half_turn, plain_row, row_of, starts,
                                 word_of_row)
from tests.samples import Dice, half_turn_word


def row_told(strands, word):
    """The row behind the word, by the place at which each strand lies."""
    places = {strand: strand for strand in range(strands)}
    for letter in word:
        left, right = abs(letter) - 1, abs(letter)
        for strand, place in list(places.items()):
            if place == left:
                places[strand] = right
            elif place == right:
                places[strand] = left
    return tuple(sorted(places, key=lambda strand: places[strand]))


def crossings_told(row):
    return sum(row.index(one) > row.index(other) for one in row for other in row if one < other)


def wordings_of_all(strands):
    """All wordings of all rows of so many strands, by trying all words of positive letters."""
    found = {}
    for length in range(strands * (strands - 1) // 2 + 1):
        for word in product(range(1, strands), repeat=length):
            row = row_told(strands, word)
            if crossings_told(row) == length:
                found.setdefault(row, []).append(word)
    return found


def some_rows(strands):
    if strands < 6:
        return sorted(permutations(range(strands)))
    dice = Dice(strands)
    return [row_told(strands, dice.word(strands, 40 + k)) for k in range(60)] + [
        tuple(range(strands)), tuple(range(strands))[::-1]]


class PlainRowTest(unittest.TestCase):

    def test_examples(self):
        self.assertEqual(plain_row(2), (0, 1))
        self.assertEqual(plain_row(5), (0, 1, 2, 3, 4))
        self.assertEqual(half_turn(2), (1, 0))
        self.assertEqual(half_turn(5), (4, 3, 2, 1, 0))

    def test_all_numbers_of_strands(self):
        for strands in range(2, 11):
            self.assertEqual(plain_row(strands), tuple(range(strands)))
            self.assertEqual(half_turn(strands), tuple(range(strands - 1, -1, -1)))

    def test_kinds(self):
        for strands in (2, 8):
            self.assertIs(type(plain_row(strands)), tuple)
            self.assertIs(type(half_turn(strands)), tuple)


class RowOfTest(unittest.TestCase):

    def test_empty_word(self):
        for strands in range(2, 9):
            self.assertEqual(row_of(strands, ()), plain_row(strands))

    def test_one_letter(self):
        self.assertEqual(row_of(2, (1,)), (1, 0))
        self.assertEqual(row_of(4, (2,)), (0, 2, 1, 3))
        self.assertEqual(row_of(4, (-2,)), (0, 2, 1, 3))
        self.assertEqual(row_of(8, (-7,)), (0, 1, 2, 3, 4, 5, 7, 6))

    def test_first_letter_comes_first(self):
        self.assertEqual(row_of(3, (1, 2)), (1, 2, 0))
        self.assertEqual(row_of(3, (2, 1)), (2, 0, 1))
        self.assertEqual(row_of(4, (1, -2, 3)), (1, 2, 3, 0))

    def test_letters_twice(self):
        self.assertEqual(row_of(3, (2, 2)), (0, 1, 2))
        self.assertEqual(row_of(3, (2, -2, 1)), (1, 0, 2))

    def test_half_turn(self):
        for strands in range(2, 9):
            self.assertEqual(row_of(strands, half_turn_word(strands)), half_turn(strands))
            self.assertEqual(row_of(strands, half_turn_word(strands) * 2), plain_row(strands))

    def test_long_words(self):
        for strands in range(2, 9):
            dice = Dice(strands)
            for length in (1, 2, 3, 10, 50, 500):
                word = dice.word(strands, length)
                row = row_of(strands, word)
                self.assertIs(type(row), tuple)
                self.assertEqual(row, row_told(strands, word))
                self.assertEqual(row_of(strands, tuple(-k for k in word)), row)


class CrossingsTest(unittest.TestCase):

    def test_examples(self):
        told = [crossings(row) for row in ((0, 1), (1, 0), (0, 2, 1), (1, 2, 0), (2, 0, 1), (2, 1, 0), (3, 0, 1, 2))]
        self.assertEqual(told, [0, 1, 1, 2, 2, 3, 3])

    def test_plain_row_and_half_turn(self):
        for strands in range(2, 9):
            self.assertEqual(crossings(plain_row(strands)), 0)
            self.assertEqual(crossings(half_turn(strands)), strands * (strands - 1) // 2)

    def test_pairs_counted(self):
        for strands in range(2, 9):
            for row in some_rows(strands):
                self.assertEqual(crossings(row), crossings_told(row))


class StartsAndEndsTest(unittest.TestCase):

    def test_examples(self):
        self.assertEqual((starts((2, 0, 1)), ends((2, 0, 1))), ([2], [1]))
        self.assertEqual((starts((1, 2, 0)), ends((1, 2, 0))), ([1], [2]))
        self.assertEqual((starts((1, 0, 3, 2)), ends((1, 0, 3, 2))), ([1, 3], [1, 3]))
        self.assertEqual((starts((2, 3, 0, 1)), ends((2, 3, 0, 1))), ([2], [2]))
        self.assertEqual((starts((1, 3, 0, 2)), ends((1, 3, 0, 2))), ([1, 3], [2]))

    def test_plain_row_and_half_turn(self):
        for strands in range(2, 9):
            self.assertEqual(starts(plain_row(strands)), [])
            self.assertEqual(ends(plain_row(strands)), [])
            self.assertEqual(starts(half_turn(strands)), list(range(1, strands)))
            self.assertEqual(ends(half_turn(strands)), list(range(1, strands)))

    def test_by_all_wordings(self):
        for strands in (2, 3, 4):
            for row, words in wordings_of_all(strands).items():
                self.assertEqual(starts(row), sorted({word[0] for word in words if word}))
                self.assertEqual(ends(row), sorted({word[-1] for word in words if word}))

    def test_by_the_words_of_point_13(self):
        for strands in range(2, 9):
            for row in some_rows(strands):
                self.assertEqual(starts(row), [k for k in range(1, strands) if row.index(k) < row.index(k - 1)])
                self.assertEqual(ends(row), [k for k in range(1, strands) if row[k - 1] > row[k]])

    def test_lists_are_the_caller_s_own(self):
        row = (2, 1, 0)
        starts(row).append(5)
        ends(row).append(5)
        self.assertEqual((starts(row), ends(row)), ([1, 2], [1, 2]))


class FollowedTest(unittest.TestCase):

    def test_examples(self):
        self.assertEqual(followed((1, 0, 2), (0, 2, 1)), (1, 2, 0))
        self.assertEqual(followed((0, 2, 1), (1, 0, 2)), (2, 0, 1))
        self.assertEqual(followed((1, 2, 0), (1, 2, 0)), (2, 0, 1))
        self.assertEqual(followed((2, 0, 1), (1, 2, 0)), (0, 1, 2))

    def test_plain_row(self):
        for strands in range(2, 9):
            for row in some_rows(strands):
                self.assertEqual(followed(row, plain_row(strands)), row)
                self.assertEqual(followed(plain_row(strands), row), row)

    def test_words_behind_one_another(self):
        for strands in range(2, 9):
            dice = Dice(50 + strands)
            for _ in range(30):
                one, other = dice.word(strands, 25), dice.word(strands, 30)
                row = followed(row_told(strands, one), row_told(strands, other))
                self.assertIs(type(row), tuple)
                self.assertEqual(row, row_told(strands, one + other))


class WordOfRowTest(unittest.TestCase):

    def test_examples(self):
        self.assertEqual(word_of_row((0, 1, 2)), ())
        self.assertEqual(word_of_row((1, 0)), (1,))
        self.assertEqual(word_of_row((2, 1, 0)), (1, 2, 1))
        self.assertEqual(word_of_row((2, 0, 1)), (2, 1))
        self.assertEqual(word_of_row((1, 0, 3, 2)), (1, 3))
        self.assertEqual(word_of_row((3, 2, 1, 0)), (1, 2, 1, 3, 2, 1))

    def test_first_one_of_all_wordings(self):
        for strands in (2, 3, 4):
            told = wordings_of_all(strands)
            self.assertEqual(sorted(told), sorted(permutations(range(strands))))
            for row, words in told.items():
                self.assertEqual(word_of_row(row), min(words))

    def test_first_one_by_what_rows_end_with(self):
        # All wordings are of one length, so the first one has the first wording of a row in front of its last letter.
        firsts = {}
        for row in sorted(permutations(range(6)), key=crossings_told):
            words = []
            for k in range(1, 6):
                if row[k - 1] > row[k]:
                    shorter = row[:k - 1] + (row[k], row[k - 1]) + row[k + 1:]
                    words.append(firsts[shorter] + (k,))
            firsts[row] = min(words, default=())
            self.assertEqual(word_of_row(row), firsts[row])

    def test_a_wording_for_all_numbers_of_strands(self):
        for strands in range(2, 9):
            for row in some_rows(strands):
                word = word_of_row(row)
                self.assertIs(type(word), tuple)
                self.assertTrue(all(0 < letter < strands for letter in word))
                self.assertEqual(len(word), crossings_told(row))
                self.assertEqual(row_told(strands, word), row)

    def test_half_turns(self):
        for strands in range(2, 9):
            word = ()
            for most in range(1, strands):
                word += tuple(range(most, 0, -1))
            self.assertEqual(word_of_row(half_turn(strands)), word)


if __name__ == "__main__":
    unittest.main()
