"""Points 19 and 20: the strings of words, and words of strings."""

import unittest
from itertools import product

from strandsplaited.curves import curve_of
from strandsplaited.errors import NoPlait
from strandsplaited.forms import form_of
from strandsplaited.judging import judge
from strandsplaited.ordering import compare
from strandsplaited.strings import is_plaited, strings_of, word_of_strings
from strandsplaited.words import undone
from tests.samples import Dice, changed_by_moves, curve_told, half_turn_word, letters_of

HUGE = 10**25


def joined(*strings):
    """The strings put together, integer by integer."""
    found = []
    for string in strings:
        for strand in string:
            if found and found[-1] == -strand:
                found.pop()
            else:
                found.append(strand)
    return tuple(found)


def strings_told(strands, word):
    """The strings of the word, straight from point 19."""
    strings = [(strand + 1,) for strand in range(strands)]
    for letter in word:
        at = abs(letter)
        u, v = strings[at - 1], strings[at]
        if letter > 0:
            strings[at - 1:at + 1] = [joined(u, v, undone(u)), u]
        else:
            strings[at - 1:at + 1] = [v, joined(undone(v), u, v)]
    return tuple(strings)


def is_plaited_told(strands, strings):
    """Tells whether the tuple is one of strings of a word, by the words of point 20."""
    if len(strings) != strands:
        return False
    middles = []
    for string in strings:
        if any(not 0 < abs(strand) <= strands for strand in string) or joined(string) != string:
            return False
        for at in range(len(string)):
            if string[at] > 0 and string == string[:at] + (string[at],) + undone(string[:at]):
                middles.append(string[at])
    return sorted(middles) == list(range(1, strands + 1)) and joined(*strings) == tuple(range(1, strands + 1))


def some_words(strands):
    """Words of up to 20 letters, some of them with long strings."""
    dice = Dice(strands)
    words = [(), *[(k,) for k in letters_of(strands)]]
    words += [dice.word(strands, length) for length in (2, 3, 4, 6, 8, 11, 15, 20, 20, 20)]
    words += [(1,) * 20, (1 - strands,) * 20, half_turn_word(strands)[:20], undone(half_turn_word(strands))[:20]]
    words += [tuple(k if k & 1 else -k for k in range(1, strands))[:20] * (20 // (strands - 1))]
    return words


class StringsOfTest(unittest.TestCase):

    def test_one_letter(self):
        self.assertEqual(strings_of(2, ()), ((1,), (2,)))
        self.assertEqual(strings_of(2, (1,)), ((1, 2, -1), (1,)))
        self.assertEqual(strings_of(2, (-1,)), ((2,), (-2, 1, 2)))
        self.assertEqual(strings_of(4, (2,)), ((1,), (2, 3, -2), (2,), (4,)))
        self.assertEqual(strings_of(4, (-3,)), ((1,), (2,), (4,), (-4, 3, 4)))

    def test_two_letters(self):
        self.assertEqual(strings_of(2, (1, 1)), ((1, 2, 1, -2, -1), (1, 2, -1)))
        self.assertEqual(strings_of(3, (1, 2)), ((1, 2, -1), (1, 3, -1), (1,)))
        self.assertEqual(strings_of(3, (1, -2)), ((1, 2, -1), (3,), (-3, 1, 3)))

    def test_words(self):
        for strands in range(2, 9):
            for word in some_words(strands):
                strings = strings_of(strands, word)
                self.assertIs(type(strings), tuple)
                self.assertTrue(all(type(string) is tuple for string in strings))
                self.assertEqual(strings, strings_told(strands, word))

    def test_empty_word(self):
        for strands in range(2, 9):
            self.assertEqual(strings_of(strands, ()), tuple((k,) for k in range(1, strands + 1)))

    def test_undone_words_behind(self):
        for strands in range(2, 9):
            dice = Dice(20 + strands)
            for _ in range(10):
                word = dice.word(strands, 10)
                self.assertEqual(strings_of(strands, word + undone(word)), strings_of(strands, ()))

    def test_alike_words(self):
        for strands in range(2, 9):
            dice = Dice(40 + strands)
            for _ in range(5):
                word = dice.word(strands, 10)
                _, other = changed_by_moves(dice, strands, word, 12)
                self.assertEqual(strings_of(strands, word), strings_of(strands, other))

    def test_strings_curves_and_forms_are_equal_for_the_same_words(self):
        for strands, most in ((2, 5), (3, 4), (4, 3)):
            told = {}
            for length in range(most + 1):
                for word in product(letters_of(strands), repeat=length):
                    told.setdefault(strings_of(strands, word), []).append(word)
            firsts = [words[0] for words in told.values()]
            self.assertEqual(len({curve_of(strands, word) for word in firsts}), len(firsts))
            for words in told.values():
                for word in words:
                    self.assertEqual(curve_of(strands, word), curve_of(strands, words[0]))
                    self.assertEqual(form_of(strands, word), form_of(strands, words[0]))
                    self.assertEqual(compare(strands, word, words[0]), 0)


class PlaitedTest(unittest.TestCase):

    def check(self, strands, strings):
        """Checks both questions against point 20, and returns what the first one says."""
        told = is_plaited_told(strands, strings)
        self.assertIs(is_plaited(strands, strings), told, strings)
        if told:
            word = word_of_strings(strands, strings)
            self.assertIs(type(word), tuple)
            self.assertEqual(strings_told(strands, word), strings)
        else:
            with self.assertRaises(NoPlait):
                word_of_strings(strands, strings)
        return told

    def test_strings_of_words(self):
        for strands in range(2, 9):
            for word in some_words(strands):
                self.assertTrue(self.check(strands, strings_of(strands, word)))

    def test_one_string_changed(self):
        for strands in range(2, 9):
            dice = Dice(strands)
            for word in ((), (1,), dice.word(strands, 3), dice.word(strands, 8)):
                strings = list(strings_of(strands, word))
                for at in range(strands):
                    string = strings[at]
                    for other in ((), undone(string), string[::-1], string * 2, string[1:], string[:-1], string[1:-1],
                                  joined(string, string), joined((1,), string, (-1,)), (1,) + string + (-1,),
                                  (-1,) + string + (1,), string + (strands, -strands), (-1, 1) + string,
                                  (HUGE,) + string + (-HUGE,), (strands + 1,), (-strands - 1,), (HUGE,), (1,),
                                  (strands,), (-1,)):
                        self.check(strands, tuple(strings[:at] + [other] + strings[at + 1:]))

    def test_strings_exchanged_left_out_and_put_in(self):
        for strands in range(2, 9):
            dice = Dice(20 + strands)
            for word in ((), (1,), (1 - strands,), dice.word(strands, 5)):
                strings = strings_of(strands, word)
                self.assertFalse(self.check(strands, ()))
                for at in range(strands):
                    self.assertFalse(self.check(strands, strings[:at] + strings[at + 1:]))
                    self.assertFalse(self.check(strands, strings[:at] + (strings[at],) + strings[at:]))
                    self.assertFalse(self.check(strands, strings[:at] + ((),) + strings[at:]))
                    self.assertFalse(self.check(strands, strings[:at] + ((strands + 1,),) + strings[at:]))
                    for other in range(at):
                        changed = list(strings)
                        changed[at], changed[other] = changed[other], changed[at]
                        self.assertFalse(self.check(strands, tuple(changed)))

    def test_all_strings_between_the_same_letters(self):
        for strands in range(2, 9):
            dice = Dice(40 + strands)
            turn = tuple(range(1, strands + 1))
            for word in ((), (1,), dice.word(strands, 6)):
                strings = strings_of(strands, word)
                for by in ((1,), (-1,), (strands,), (1, 2), (2, -1), turn, undone(turn), turn * 2, turn[1:]):
                    changed = tuple(joined(by, string, undone(by)) for string in strings)
                    # Only what leaves 1, 2, 3 and so on as it is between them: that string, again and again.
                    self.assertEqual(self.check(strands, changed), by in (turn, undone(turn), turn * 2))
                    # Without taking neighbours out, most of these are no strings.
                    self.check(strands, tuple(by + string + undone(by) for string in strings))

    def test_no_strings_of_a_word(self):
        wrong = [(), ((),), ((1,),), ((), ()), ((1,), ()), ((2,), (1,)), ((-1,), (-2,)), ((1,), (-2,)), ((1, 2), ()),
                 ((1,), (1,)), ((1, 2, -1), (2,)), ((1, 2, -1), (1, 1, -1)), ((1,), (2,), (3,)), ((1,), (3,)),
                 ((2, 1, -2), (2,)), ((1,), (1, -1, 2)), ((2, -2, 1), (2,)), ((1,), (2, 2, -2)), ((3,), (-3, 1, 2)),
                 ((3, 1, -3), (2,)), ((3, 1, -3), (3, 2, -3)), ((HUGE,), (-HUGE,)), ((1, 2, 1), (2,)),
                 ((1, 2, 2), (1,)),
                 ((1, 2, 1, -2), (1,)), ((1, 2, -1, 1), (1,)), ((1, -2, -1), (1,)), ((1, 2, -1), (1,), ())]
        for strings in wrong:
            self.assertFalse(self.check(2, strings))
        self.assertTrue(self.check(2, ((1, 2, -1), (1,))))
        self.assertFalse(self.check(3, ((1, 2, -1), (1,))))
        self.assertTrue(self.check(3, ((1, 2, -1), (1,), (3,))))

    def test_all_small_tuples(self):
        strings = [string for length in range(4) for string in product((-2, -1, 1, 2, 3), repeat=length)]
        for one in strings:
            for other in strings[::3] + [(1,), (2,), (-2, 1, 2), (1, 2, -1)]:
                self.assertIs(is_plaited(2, (one, other)), is_plaited_told(2, (one, other)))
        self.assertEqual(sum(is_plaited(2, (one, other)) for one in strings for other in strings), 3)


class WordOfStringsTest(unittest.TestCase):

    def test_alike_to_the_word_from_which_they_come(self):
        for strands in range(2, 9):
            for word in some_words(strands):
                strings = strings_of(strands, word)
                other = word_of_strings(strands, strings)
                self.assertEqual(strings_of(strands, other), strings)
                self.assertEqual(form_of(strands, other), form_of(strands, word))
                self.assertEqual(curve_of(strands, other), curve_told(strands, word))
                self.assertEqual(compare(strands, word, other), 0)
                self.assertEqual(judge(strands, word, other)[0], "alike")
                self.assertTrue(is_plaited(strands, strings_of(strands, other)))

    def test_plain_strings(self):
        for strands in range(2, 9):
            self.assertEqual(curve_told(strands, word_of_strings(strands, strings_of(strands, ()))),
                             (0, 1) * strands)

    def test_long_strings(self):
        word = (1, -2) * 10
        strings = strings_of(3, word)
        self.assertGreater(sum(len(string) for string in strings), 20000)
        self.assertEqual(curve_told(3, word_of_strings(3, strings)), curve_told(3, word))

    def test_refusing_changes_nothing(self):
        strings = strings_of(3, (1, -2, 1))
        for _ in range(2):
            with self.assertRaises(NoPlait):
                word_of_strings(3, strings[::-1])
            self.assertEqual(curve_told(3, word_of_strings(3, strings)), curve_told(3, (1, -2, 1)))


if __name__ == "__main__":
    unittest.main()
