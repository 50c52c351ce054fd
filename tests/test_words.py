"""Points 3 and 4: letters, words, and the words that are made of them."""

import unittest

from strandsplaited.words import (MOST_STRANDS, flipped, is_word, mirrored, shifted, total, turned_back,
                                  undone)
from tests.samples import Dice


class IsWordTest(unittest.TestCase):

    def test_most_strands(self):
        self.assertEqual(MOST_STRANDS, 8)

    def test_empty_word(self):
        for strands in (2, 3, 8, 9, 200):
            self.assertIs(is_word(strands, ()), True)

    def test_all_letters_of_so_many_strands(self):
        for strands in (2, 3, 4, 5, 6, 7, 8, 9, 30, 200):
            letters = [k for k in range(1 - strands, strands) if k]
            self.assertIs(is_word(strands, tuple(letters)), True)
            for letter in letters:
                self.assertIs(is_word(strands, (letter,)), True)

    def test_zero_is_no_letter(self):
        for word in ((0,), (0, 1), (1, 0), (1, 0, -1), (-1, 1, 0)):
            self.assertIs(is_word(2, word), False)
            self.assertIs(is_word(8, word), False)

    def test_letter_too_great(self):
        for strands in (2, 3, 4, 5, 6, 7, 8, 9, 200):
            for wrong in (strands, strands + 1, 2 * strands, 10**25, 10**5000):
                for letter in (wrong, -wrong):
                    for word in ((letter,), (1, letter), (letter, -1), (1, letter, 1)):
                        self.assertIs(is_word(strands, word), False)

    def test_fewer_strands_allow_less(self):
        self.assertIs(is_word(3, (1, -2, 2)), True)
        self.assertIs(is_word(2, (1, -2, 2)), False)
        self.assertIs(is_word(8, (7, -7)), True)
        self.assertIs(is_word(7, (7, -7)), False)


class MadeOfWordsTest(unittest.TestCase):

    def test_empty_word(self):
        for make in (undone, mirrored, turned_back, shifted):
            self.assertEqual(make(()), ())
        for strands in (2, 3, 8, 200):
            self.assertEqual(flipped(strands, ()), ())
        self.assertEqual(total(()), 0)

    def test_one_letter(self):
        self.assertEqual(undone((1,)), (-1,))
        self.assertEqual(undone((-7,)), (7,))
        self.assertEqual(mirrored((1,)), (-1,))
        self.assertEqual(mirrored((-7,)), (7,))
        self.assertEqual(turned_back((1,)), (1,))
        self.assertEqual(turned_back((-7,)), (-7,))
        self.assertEqual(shifted((1,)), (2,))
        self.assertEqual(shifted((-1,)), (-2,))
        self.assertEqual(flipped(2, (1,)), (1,))
        self.assertEqual(flipped(2, (-1,)), (-1,))
        self.assertEqual(flipped(8, (7,)), (1,))
        self.assertEqual(flipped(8, (-1,)), (-7,))

    def test_letter_by_letter(self):
        word = (1, -2, 3, 3, -1)
        self.assertEqual(undone(word), (1, -3, -3, 2, -1))
        self.assertEqual(mirrored(word), (-1, 2, -3, -3, 1))
        self.assertEqual(turned_back(word), (-1, 3, 3, -2, 1))
        self.assertEqual(shifted(word), (2, -3, 4, 4, -2))
        self.assertEqual(flipped(4, word), (3, -2, 1, 1, -3))
        self.assertEqual(flipped(8, word), (7, -6, 5, 5, -7))
        self.assertEqual(total(word), 1)

    def test_words_of_many_strands(self):
        for strands in (2, 3, 4, 5, 6, 7, 8, 9, 50, 200):
            word = Dice(strands).word(strands, 120)
            last = len(word) - 1
            back, mirror, turned = undone(word), mirrored(word), turned_back(word)
            further, other_side = shifted(word), flipped(strands, word)
            for made in (back, mirror, turned, further, other_side):
                self.assertIsInstance(made, tuple)
                self.assertEqual(len(made), len(word))
            for place, letter in enumerate(word):
                self.assertEqual(back[last - place], -letter)
                self.assertEqual(mirror[place], -letter)
                self.assertEqual(turned[last - place], letter)
                self.assertEqual(further[place] * letter > 0, True)
                self.assertEqual(abs(further[place]), abs(letter) + 1)
                self.assertEqual(other_side[place] * letter > 0, True)
                self.assertEqual(abs(other_side[place]), strands - abs(letter))
            self.assertTrue(is_word(strands + 1, further))
            self.assertTrue(is_word(strands, other_side))
            senses = [letter > 0 for letter in word]
            self.assertEqual(total(word), senses.count(True) - senses.count(False))

    def test_total(self):
        self.assertEqual(total((5,)), 1)
        self.assertEqual(total((-5,)), -1)
        self.assertEqual(total((1, -1)), 0)
        self.assertEqual(total((-3, -3, 150, -7)), -2)
        self.assertEqual(total((1,) * 500), 500)


if __name__ == "__main__":
    unittest.main()
