"""Points 7 and 8: the sense of a word, and moves that lead a word to one with a sense."""

import unittest
from itertools import product

from strandsplaited.moves import leads
from strandsplaited.reducing import reduced, sense
from strandsplaited.words import mirrored, shifted, turned_back, undone
from tests.samples import Dice, half_turn_word, lean_of


class SenseTest(unittest.TestCase):

    def test_examples(self):
        told = [sense((2, -3, 2)), sense((2, 1, -2)), sense((-1, 2)), sense((1, 2, -1))]
        self.assertEqual(told, [1, 1, -1, None])

    def test_empty_word(self):
        self.assertEqual(sense(()), 0)

    def test_only_one_letter(self):
        for letter in range(1, 8):
            for many in (1, 2, 500):
                self.assertEqual(sense((letter,) * many), 1)
                self.assertEqual(sense((-letter,) * many), -1)
            self.assertIsNone(sense((letter, -letter)))
            self.assertIsNone(sense((-letter, letter, letter)))

    def test_least_letter_alone_counts(self):
        self.assertEqual(sense((-7, 7, -3, 3, 2, -5)), 1)
        self.assertEqual(sense((7, 3, -2, 3, 5)), -1)
        self.assertIsNone(sense((3, -2, 3, 2, 3)))
        self.assertEqual(sense((5, -6, -7, 6)), 1)
        self.assertEqual(sense((-5, 6, 7, -6)), -1)

    def test_by_the_words_of_point_7(self):
        for length in range(5):
            for word in product((-3, -2, -1, 1, 2, 3), repeat=length):
                with_least = {k for k in word if abs(k) == min(map(abs, word))}
                if not word:
                    told = 0
                elif len(with_least) == 2:
                    told = None
                else:
                    told = 1 if max(with_least) > 0 else -1
                self.assertEqual(sense(word), told)


class ReducedTest(unittest.TestCase):

    def check(self, strands, word):
        """Checks what point 8 says of the pair, and returns the sense."""
        moves, last = reduced(strands, word)
        self.assertIsInstance(moves, list)
        self.assertIsInstance(last, tuple)
        told = sense(last)
        self.assertIn(told, (-1, 0, 1))
        self.assertIs(leads(strands, word, moves, last), True)
        self.assertEqual(told, lean_of(strands, word))
        return told

    def test_empty_word(self):
        for strands in range(2, 9):
            self.assertEqual(reduced(strands, ()), ([], ()))

    def test_words_that_have_a_sense(self):
        for strands, word, told in ((2, (1,), 1), (2, (-1, -1), -1), (3, (2, 1, -2), 1), (4, (-1, 2, 3, -2), -1),
                                    (8, (7,), 1), (8, (-7,), -1), (8, (3, 4, -4), 1)):
            self.assertEqual(self.check(strands, word), told)

    def test_short_handles(self):
        self.assertEqual(self.check(3, (1, 2, -1)), 1)
        self.assertEqual(self.check(3, (1, -2, -1)), -1)
        self.assertEqual(self.check(3, (-1, 2, 1)), 1)
        self.assertEqual(self.check(3, (-1, -2, 1)), -1)
        self.assertEqual(self.check(4, (1, 3, -1)), 1)
        self.assertEqual(self.check(4, (-1, -3, 1)), -1)
        self.assertEqual(self.check(4, (1, 2, 3, -2, -1)), 1)
        self.assertEqual(self.check(4, (1, 2, -3, -2, -1)), -1)

    def test_all_short_words(self):
        for strands, most in ((2, 7), (3, 6), (4, 4), (5, 3)):
            letters = [k for k in range(1 - strands, strands) if k]
            for length in range(most + 1):
                for word in product(letters, repeat=length):
                    self.check(strands, word)

    def test_two_words_of_one_plait(self):
        for strands in range(2, 9):
            dice = Dice(100 + strands)
            word = dice.word(strands, 100)
            self.assertEqual(self.check(strands, word + undone(word)), 0)
            self.assertEqual(self.check(strands, undone(word) + word), 0)
        self.assertEqual(self.check(3, (1, 2, 1, -2, -1, -2)), 0)
        self.assertEqual(self.check(4, (1, -3, -1, 3)), 0)

    def test_whole_turn_changes_places_with_each_word(self):
        for strands in range(2, 9):
            turn = half_turn_word(strands) * 2
            word = Dice(200 + strands).word(strands, 60)
            self.assertEqual(self.check(strands, turn + word + undone(turn) + undone(word)), 0)

    def test_undone_word_around_letters(self):
        for strands in range(2, 9):
            dice = Dice(300 + strands)
            for length in (1, 5, 40, 200):
                word = dice.word(strands, length)
                for letter in (1, strands - 1):
                    self.assertEqual(self.check(strands, undone(word) + (letter,) + word), 1)
                    self.assertEqual(self.check(strands, word + (-letter,) + undone(word)), -1)
                self.check(strands, word + dice.word(strands, 3) + undone(word))

    def test_mirrored_turned_back_shifted(self):
        for strands in range(2, 8):
            dice = Dice(400 + strands)
            for _ in range(10):
                word = dice.word(strands, 30)
                told = self.check(strands, word)
                self.assertEqual(self.check(strands, mirrored(word)), -told)
                self.assertEqual(self.check(strands, undone(word)), -told)
                self.assertEqual(self.check(strands, turned_back(word)), told)
                self.assertEqual(self.check(strands + 1, shifted(word)), told)

    def test_words_of_each_length(self):
        for strands in range(2, 9):
            dice = Dice(500 + strands)
            for length in range(2, 60):
                self.check(strands, dice.word(strands, length))

    def test_long_words(self):
        for strands in range(2, 9):
            dice = Dice(600 + strands)
            for _ in range(4):
                self.check(strands, dice.word(strands, 500))

    def test_long_words_of_two_senses(self):
        for strands in range(2, 9):
            dice = Dice(700 + strands)
            front = tuple(abs(k) for k in dice.word(strands, 250))
            behind = tuple(-abs(k) for k in dice.word(strands, 250))
            self.check(strands, front + behind)
            self.check(strands, behind + front)

    def test_long_words_of_repeated_letters(self):
        for strands in range(3, 9):
            zigzag = tuple(k if k & 1 else -k for k in range(1, strands))
            many = 240 // len(zigzag)
            self.check(strands, zigzag * many + (1,) + undone(zigzag * many))
            self.check(strands, zigzag * many + (-2, 1) + undone(zigzag) * many)
            turns = half_turn_word(strands) * (240 // len(half_turn_word(strands)))
            self.check(strands, undone(turns) + Dice(strands).word(strands, 20) + turns)
            self.check(strands, turns + tuple(-k for k in range(strands - 1, 0, -1)) * many)

    def test_words_that_take_many_moves(self):
        # Words of these kinds took the most moves of many that were tried.
        word = ((1, 4, 4, 1, 1, 4, 2, 5, 3, 1, 1, 3) * 6 + (4, 2, -3) * 26
                + (-1, -4, -1, -1, -3, -3, -4, -4, -1, -1, -2, -5, -2, -4, -4, -2) * 5)
        self.check(6, word)
        self.check(8, tuple(range(-7, 0)) * 20 + (4, 7, -6, 2, -3, 2, 1) * 20)

    def test_more_strands_and_letters_than_are_promised(self):
        self.check(12, Dice(1).word(12, 300))
        self.check(8, Dice(2).word(8, 700))

    def test_each_call_returns_a_list_of_its_own(self):
        for word in ((), (1,), (1, 2, -1)):
            moves, last = reduced(3, word)
            moves.append("changed")
            again, same = reduced(3, word)
            self.assertNotIn("changed", again)
            self.assertEqual(same, last)
            self.assertIs(leads(3, word, again, same), True)


if __name__ == "__main__":
    unittest.main()
