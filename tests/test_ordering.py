"""Points 8, 9, 10 and 18: which word is less, lists of words in order, and floors."""

import unittest
from itertools import product

from strandsplaited.ordering import ascending, compare, floor
from strandsplaited.reducing import reduced
from strandsplaited.words import mirrored, shifted, turned_back, undone
from tests.samples import Dice, changed_by_moves, half_turn_word, lean_of, letters_of


def turned(strands, many):
    """A word of so many whole turns."""
    turn = half_turn_word(strands) * 2
    return turn * many if many > 0 else undone(turn) * -many


class CompareTest(unittest.TestCase):

    def check(self, strands, one, other):
        told = compare(strands, one, other)
        self.assertIs(type(told), int)
        self.assertEqual(told, -lean_of(strands, undone(one) + other))
        self.assertEqual(compare(strands, other, one), -told)
        return told

    def test_examples(self):
        self.assertEqual([compare(3, (1,), (2,)), compare(3, (1, 2, 1), (2, 1, 2))], [1, 0])

    def test_empty_word(self):
        for strands in range(2, 9):
            self.assertEqual(compare(strands, (), ()), 0)
            for k in range(1, strands):
                self.assertEqual(compare(strands, (), (k,)), -1)
                self.assertEqual(compare(strands, (k,), ()), 1)
                self.assertEqual(compare(strands, (), (-k,)), 1)
                self.assertEqual(compare(strands, (-k,), ()), -1)

    def test_letters(self):
        for strands in range(2, 9):
            # By point 7 the letter with the least absolute value decides.
            letters = [-k for k in range(1, strands)] + list(range(strands - 1, 0, -1))
            for a, one in enumerate(letters):
                for b, other in enumerate(letters):
                    self.assertEqual(compare(strands, (one,), (other,)), (a > b) - (a < b))

    def test_nothing_between_the_empty_word_and_the_greatest_letter(self):
        for strands in range(2, 9):
            dice = Dice(strands)
            for _ in range(60):
                word = dice.word(strands, dice.below(7))
                self.assertIn((compare(strands, (), word), compare(strands, word, (strands - 1,))),
                              ((0, -1), (1, -1), (-1, 0), (-1, 1)))

    def test_words_of_each_number_of_strands(self):
        for strands in range(2, 9):
            dice = Dice(20 + strands)
            for length in (1, 2, 4, 8, 16, 32, 64, 500):
                one, other = dice.word(strands, length), dice.word(strands, length)
                self.check(strands, one, other)
                self.assertEqual(compare(strands, one, one), 0)

    def test_agrees_with_reduced(self):
        for strands in range(2, 9):
            dice = Dice(40 + strands)
            for _ in range(20):
                one, other = dice.word(strands, 12), dice.word(strands, 12)
                _, last = reduced(strands, undone(one) + other)
                least = min(last, key=abs, default=0)
                self.assertEqual(compare(strands, one, other), (least < 0) - (least > 0))

    def test_all_short_words(self):
        words = [word for length in range(4) for word in product(letters_of(3), repeat=length)]
        for one in words[::3]:
            for other in words[::5]:
                self.check(3, one, other)

    def test_alike_words(self):
        for strands in range(2, 9):
            dice = Dice(60 + strands)
            word = dice.word(strands, 15)
            _, other = changed_by_moves(dice, strands, word, 50)
            self.assertEqual(self.check(strands, word, other), 0)
            self.assertEqual(self.check(strands, word + (1,), other), 1)
            self.assertEqual(self.check(strands, word, other + (strands - 1,)), -1)

    def test_word_in_front(self):
        for strands in range(2, 9):
            dice = Dice(80 + strands)
            for _ in range(10):
                front, one, other = dice.word(strands, 20), dice.word(strands, 9), dice.word(strands, 9)
                self.assertEqual(compare(strands, front + one, front + other), compare(strands, one, other))

    def test_mirrored(self):
        for strands in range(2, 9):
            dice = Dice(100 + strands)
            for _ in range(10):
                one, other = dice.word(strands, 9), dice.word(strands, 9)
                self.assertEqual(compare(strands, mirrored(one), mirrored(other)), -compare(strands, one, other))

    def test_letter_put_in(self):
        for strands in range(2, 9):
            dice = Dice(120 + strands)
            for _ in range(20):
                word = dice.word(strands, 12)
                at = dice.below(13)
                letter = dice.letter(strands)
                told = compare(strands, word, word[:at] + (letter,) + word[at:])
                self.assertEqual(told, -1 if letter > 0 else 1)

    def test_turned_back_and_shifted(self):
        for strands in range(2, 8):
            dice = Dice(140 + strands)
            for _ in range(10):
                word = dice.word(strands, 9)
                told = compare(strands, word, ())
                self.assertEqual(compare(strands, turned_back(word), ()), told)
                self.assertEqual(compare(strands + 1, shifted(word), ()), told)


class AscendingTest(unittest.TestCase):

    def test_empty_list(self):
        for strands in range(2, 9):
            words = []
            told = ascending(strands, words)
            self.assertEqual(told, [])
            told.append(())
            self.assertEqual(words, [])

    def test_one_word(self):
        self.assertEqual(ascending(3, [(1, -2)]), [(1, -2)])

    def test_letters(self):
        words = [(1,), (2,), (), (-1,), (-2,), (3,), (-3,)]
        told = [(-1,), (-2,), (-3,), (), (3,), (2,), (1,)]
        self.assertEqual(ascending(4, words), told)
        self.assertEqual(ascending(4, words[::-1]), told)
        self.assertEqual(ascending(4, told), told)

    def test_alike_words_stay_as_they_were(self):
        one, two, three = (1, 2, 1), (2, 1, 2), (1, -1, 2, 1, 2)
        for words in ([one, two, three], [three, one, two], [two, three, one], [three, two, one]):
            self.assertEqual(ascending(3, words), words)
            self.assertEqual(ascending(3, [(1,)] + words + [(-2,)]), [(-2,), (1,)] + words)
            self.assertEqual(ascending(3, [words[0], (1,), words[1], (-2,), words[2]]), [(-2,), (1,)] + words)

    def test_equal_words(self):
        self.assertEqual(ascending(2, [(1,), (), (1,), ()]), [(), (), (1,), (1,)])
        self.assertEqual(ascending(3, [(2, -2), (), (1, -1), ()]), [(2, -2), (), (1, -1), ()])

    def test_many_words(self):
        for strands in range(2, 9):
            dice = Dice(strands)
            words = [dice.word(strands, dice.below(8)) for _ in range(40)]
            words += [changed_by_moves(dice, strands, word, 12)[1] for word in words[:10]] + words[5:10]
            before = list(words)
            told = ascending(strands, words)
            self.assertEqual(words, before)
            self.assertEqual(sorted(told), sorted(words))
            for at, one in enumerate(told):
                for other in told[at + 1:]:
                    self.assertGreaterEqual(lean_of(strands, undone(one) + other), 0)
            # Of alike words, those that were first are first.
            left = list(words)
            for word in told:
                alike = [other for other in left if lean_of(strands, undone(word) + other) == 0]
                self.assertEqual(alike[0], word)
                left.remove(word)

    def test_list_stays(self):
        words = [(2,), (1,), (), (1,)]
        told = ascending(3, words)
        self.assertEqual(words, [(2,), (1,), (), (1,)])
        told.clear()
        self.assertEqual(words, [(2,), (1,), (), (1,)])

    def test_long_words(self):
        dice = Dice(9)
        words = [dice.word(8, 500) for _ in range(12)]
        told = ascending(8, words)
        for one, other in zip(told, told[1:]):
            self.assertEqual(lean_of(8, undone(one) + other), 1)


class FloorTest(unittest.TestCase):

    def check(self, strands, word):
        told = floor(strands, word)
        self.assertIs(type(told), int)
        self.assertGreaterEqual(lean_of(strands, turned(strands, -told) + word), 0)
        self.assertEqual(lean_of(strands, turned(strands, -told - 1) + word), -1)
        return told

    def test_examples(self):
        self.assertEqual([floor(3, (-1,)), floor(2, (1, 1, 1))], [-1, 1])

    def test_empty_word(self):
        for strands in range(2, 9):
            self.assertEqual(floor(strands, ()), 0)

    def test_one_letter(self):
        for strands in range(3, 9):
            for k in range(1, strands):
                self.assertEqual(floor(strands, (k,)), 0)
                self.assertEqual(floor(strands, (-k,)), -1)

    def test_two_strands(self):
        for many in range(61):
            self.assertEqual(floor(2, (1,) * many), many // 2)
            self.assertEqual(floor(2, (-1,) * many), -many // 2)

    def test_whole_turns(self):
        for strands in range(2, 9):
            for many in range(-4, 5):
                self.assertEqual(floor(strands, turned(strands, many)), many)
                self.assertEqual(floor(strands, turned(strands, many) + (strands - 1,)), many)
                self.assertEqual(floor(strands, turned(strands, many) + (1 - strands,)), many - 1)

    def test_whole_turns_put_in(self):
        for strands in range(2, 9):
            dice = Dice(strands)
            word = dice.word(strands, 15)
            told = self.check(strands, word)
            for many in (1, -1, 3, -3):
                at = dice.below(16)
                self.assertEqual(floor(strands, word[:at] + turned(strands, many) + word[at:]), told + many)

    def test_words_of_each_number_of_strands(self):
        for strands in range(2, 9):
            dice = Dice(20 + strands)
            for length in (2, 5, 10, 20, 40, 80):
                word = dice.word(strands, length)
                self.check(strands, word)
                self.check(strands, tuple(abs(k) for k in word))
                self.check(strands, tuple(-abs(k) for k in word))

    def test_long_words(self):
        for strands in range(2, 9):
            dice = Dice(40 + strands)
            self.check(strands, dice.word(strands, 500))
            self.check(strands, tuple(-abs(k) for k in dice.word(strands, 500)))
            self.check(strands, (tuple(range(1, strands)) + tuple(range(strands - 1, 0, -1))) * 35)
        self.assertEqual(floor(2, (1,) * 499), 249)
        self.assertEqual(floor(2, (-1,) * 499), -250)

    def test_floors_behind_one_another(self):
        for strands in range(2, 9):
            dice = Dice(60 + strands)
            for _ in range(10):
                one, other = dice.word(strands, 20), dice.word(strands, 20)
                more = floor(strands, one + other) - floor(strands, one) - floor(strands, other)
                self.assertIn(more, (0, 1))

    def test_a_single_strand(self):
        self.assertEqual(floor(1, ()), 0)


if __name__ == "__main__":
    unittest.main()
