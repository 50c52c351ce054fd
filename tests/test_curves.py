"""Points 17 and 18: the curves of words, and the sides to which they lean."""

import unittest

from strandsplaited.curves import carried, curve_of, lean, plain_curve
from strandsplaited.forms import form_of
from strandsplaited.ordering import compare
from strandsplaited.words import mirrored, undone
from tests.samples import Dice, changed_by_moves, curve_told, half_turn_word, lean_of


class CurveTest(unittest.TestCase):

    def test_examples(self):
        self.assertEqual([plain_curve(2), curve_of(2, (1,)), curve_of(3, (1, -2))],
                         [(0, 1, 0, 1), (1, 0, 0, 2), (1, 0, -2, 0, 0, 3)])

    def test_plain_curve(self):
        for strands in range(2, 9):
            self.assertEqual(plain_curve(strands), (0, 1) * strands)
            self.assertEqual(curve_of(strands, ()), (0, 1) * strands)
            self.assertEqual(carried((0, 1) * strands, ()), (0, 1) * strands)

    def test_letter_by_letter(self):
        for strands in range(2, 9):
            dice = Dice(strands)
            for length in (1, 2, 3, 20, 500):
                word = dice.word(strands, length)
                curve = curve_of(strands, word)
                self.assertIs(type(curve), tuple)
                self.assertEqual(curve, curve_told(strands, word))
                self.assertEqual(carried(curve, undone(word)), plain_curve(strands))

    def test_carried_further(self):
        for strands in range(2, 9):
            dice = Dice(20 + strands)
            one, other = dice.word(strands, 30), dice.word(strands, 30)
            curve = curve_of(strands, one)
            self.assertEqual(carried(curve, other), curve_told(strands, one + other))
            self.assertEqual(curve, curve_told(strands, one))

    def test_alike_words_have_one_curve(self):
        for strands in range(2, 9):
            dice = Dice(40 + strands)
            word = dice.word(strands, 20)
            _, other = changed_by_moves(dice, strands, word, 60)
            self.assertNotEqual(word, other)
            self.assertEqual(curve_of(strands, word), curve_of(strands, other))
            self.assertNotEqual(curve_of(strands, word + (1,)), curve_of(strands, other))

    def test_undone_words_behind(self):
        for strands in range(2, 9):
            dice = Dice(80 + strands)
            for length in (1, 10, 250, 500):
                word = dice.word(strands, length)
                self.assertEqual(curve_of(strands, word + undone(word)), plain_curve(strands))
                self.assertEqual(curve_of(strands, undone(word) + word), plain_curve(strands))

    def test_carried_in_two_steps(self):
        for strands in range(2, 9):
            dice = Dice(100 + strands)
            word = dice.word(strands, 500)
            for at in (0, 1, 250, 499, 500):
                self.assertEqual(carried(curve_of(strands, word[:at]), word[at:]), curve_of(strands, word))

    def test_whole_turn_put_in_anywhere(self):
        for strands in range(2, 9):
            dice = Dice(120 + strands)
            word = dice.word(strands, 60)
            for turn in (half_turn_word(strands) * 2, undone(half_turn_word(strands) * 2)):
                told = curve_of(strands, turn + word)
                for at in (1, 20, 59, 60):
                    self.assertEqual(curve_of(strands, word[:at] + turn + word[at:]), told)
                self.assertNotEqual(told, curve_of(strands, word))

    def test_unlike_words_have_other_curves(self):
        for strands in range(2, 9):
            dice = Dice(140 + strands)
            words = [dice.word(strands, dice.below(5)) for _ in range(40)]
            for one in words:
                for other in words:
                    self.assertEqual(curve_of(strands, one) == curve_of(strands, other),
                                     form_of(strands, one) == form_of(strands, other))


class LeanTest(unittest.TestCase):

    def test_first_integers_alone_count(self):
        self.assertEqual(lean((0, 1, 0, 1)), 0)
        self.assertEqual(lean((1, 0, 0, 2)), 1)
        self.assertEqual(lean((-1, 0, 0, 2)), -1)
        self.assertEqual(lean((0, -5, 0, 7)), 0)
        self.assertEqual(lean((0, -1, 10**30, 2, -1, 0)), 1)
        self.assertEqual(lean((0, 1, 0, 2, -10**30, 0)), -1)

    def test_words(self):
        for strands in range(2, 9):
            self.assertEqual(lean(curve_of(strands, (strands - 1,))), 1)
            self.assertEqual(lean(curve_of(strands, (1 - strands,))), -1)
            self.assertEqual(lean(curve_of(strands, half_turn_word(strands))), 1)
            dice = Dice(60 + strands)
            for _ in range(20):
                word = dice.word(strands, 12)
                self.assertEqual(lean(curve_of(strands, word)), lean_of(strands, word))
                self.assertEqual(lean(curve_of(strands, mirrored(word))), -lean_of(strands, word))

    def test_plain_curve(self):
        for strands in range(2, 9):
            self.assertEqual(lean(plain_curve(strands)), 0)
            word = Dice(strands).word(strands, 500)
            self.assertEqual(lean(curve_of(strands, word + undone(word))), 0)

    def test_leans_as_the_order_says(self):
        for strands in range(2, 9):
            dice = Dice(80 + strands)
            for length in (1, 3, 9, 27, 81, 243, 500):
                one, other = dice.word(strands, length), dice.word(strands, length)
                self.assertEqual(lean(curve_of(strands, undone(one) + other)), -compare(strands, one, other))
                self.assertEqual(lean(curve_of(strands, one)), compare(strands, one, ()))
                self.assertEqual(lean(curve_of(strands, undone(one) + one)), 0)


if __name__ == "__main__":
    unittest.main()
