"""Points 15 and 16: the positive plaits, counted and numbered."""

import unittest
from itertools import islice, product

from strandsplaited.counting import Positive
from strandsplaited.errors import NoPlait
from strandsplaited.forms import form_of, form_word
from tests.samples import Dice, curve_told, half_turn_word, letters_of

HUGE = 10**25
FEW = ((2, 6), (3, 6), (4, 5), (5, 4))


def rows_told(strands, word):
    """The tuple by which positive plaits are put in order: half turns in front, then the rows of the form."""
    turns, rows = form_of(strands, word)
    return (tuple(range(strands))[::-1],) * turns + rows


def unlike_words(strands, many):
    """For each plait of so many crossings all its words of positive letters, in the order of the plaits."""
    found = {}
    for word in product(range(1, strands), repeat=many):
        found.setdefault(curve_told(strands, word), []).append(word)
    return sorted(found.values(), key=lambda words: rows_told(strands, words[0]))


class FewCrossingsTest(unittest.TestCase):

    def test_against_all_words(self):
        for strands, most in FEW:
            positive = Positive(strands)
            for many in range(most + 1):
                plaits = unlike_words(strands, many)
                self.assertEqual(positive.count(many), len(plaits))
                told = [positive.at(many, place) for place in range(len(plaits))]
                for place, words in enumerate(plaits):
                    self.assertIn(told[place], words)
                    self.assertEqual(told[place], form_word(strands, form_of(strands, words[-1])))
                    self.assertEqual([positive.place(word) for word in words], [place] * len(words))
                for start in (0, 1, len(told) // 2, len(told) - 1, len(told), len(told) + 1, HUGE):
                    self.assertEqual(list(positive.all_from(many, start)), told[start:])

    def test_known_counts(self):
        self.assertEqual([Positive(3).count(many) for many in range(7)], [1, 2, 4, 7, 12, 20, 33])
        self.assertEqual([Positive(4).count(many) for many in range(4)], [1, 3, 8, 19])
        self.assertEqual([Positive(2).count(many) for many in (0, 1, 7, 200)], [1, 1, 1, 1])

    def test_small_orders(self):
        self.assertEqual(list(Positive(3).all_from(1, 0)), [(2,), (1,)])
        self.assertEqual(list(Positive(3).all_from(3, 0)),
                         [(2, 2, 2), (2, 2, 1), (1, 1, 1), (1, 1, 2), (1, 2, 2), (2, 1, 1), (1, 2, 1)])
        self.assertEqual(Positive(4).at(6, Positive(4).count(6) - 1), (1, 2, 1, 3, 2, 1))

    def test_no_crossings(self):
        for strands in range(2, 6):
            positive = Positive(strands)
            self.assertEqual(positive.count(0), 1)
            self.assertEqual(positive.at(0, 0), ())
            self.assertEqual(positive.place(()), 0)
            self.assertEqual(list(positive.all_from(0, 0)), [()])
            self.assertEqual(list(positive.all_from(0, 1)), [])
            for place in (-1, 1, HUGE):
                with self.assertRaises(NoPlait):
                    positive.at(0, place)

    def test_negative_numbers(self):
        for strands in range(2, 6):
            positive = Positive(strands)
            for many in (-1, -2, -200, -HUGE):
                self.assertEqual(positive.count(many), 0)
            self.assertEqual(positive.count(1), strands - 1)

    def test_places_that_are_none(self):
        for strands in range(2, 6):
            positive = Positive(strands)
            for many in (0, 1, 3, 6):
                count = positive.count(many)
                for place in (-1, -count, -HUGE, count, count + 1, HUGE):
                    with self.assertRaises(NoPlait):
                        positive.at(many, place)
                self.assertEqual(positive.count(many), count)

    def test_negative_letters(self):
        for strands in range(2, 6):
            positive = Positive(strands)
            for letter in letters_of(strands):
                for word in ((-1,), (letter, -1), (-1, letter), (1, -1), (1, 1, -1), (letter, 1, -letter)):
                    with self.assertRaises(NoPlait):
                        positive.place(word)


class ManyCrossingsTest(unittest.TestCase):

    def check(self, positive, strands, many, places):
        rows = []
        for place in places:
            word = positive.at(many, place)
            self.assertIs(type(word), tuple)
            self.assertEqual(len(word), many)
            self.assertTrue(all(0 < letter < strands for letter in word))
            self.assertEqual(positive.place(word), place)
            self.assertEqual(word, form_word(strands, form_of(strands, word)))
            rows.append(rows_told(strands, word))
        for one, other in zip(rows, rows[1:]):
            self.assertLess(one, other)

    def test_drawn_places(self):
        for strands in range(3, 6):
            dice = Dice(strands)
            positive = Positive(strands)
            for many in (10, 200, 60, 119):
                count = positive.count(many)
                places = {0, 1, 2, count - 1, count - 2, count // 2}
                limit = 10
                while limit < count:
                    places.add(dice.below(2**30) * limit // 2**30)
                    places.add(count - 1 - dice.below(2**30) * limit // 2**30)
                    limit *= 1000
                self.check(positive, strands, many, sorted(places))
                for place in (-1, count, HUGE * count):
                    with self.assertRaises(NoPlait):
                        positive.at(many, place)

    def test_two_strands(self):
        positive = Positive(2)
        self.assertEqual(positive.count(200), 1)
        self.assertEqual(positive.at(200, 0), (1,) * 200)
        self.assertEqual(positive.place((1,) * 200), 0)
        self.assertEqual(list(positive.all_from(200, 0)), [(1,) * 200])

    def test_first_and_last_place(self):
        for strands in range(3, 6):
            turn = half_turn_word(strands)
            positive = Positive(strands)
            last = positive.count(4 * len(turn)) - 1
            self.assertEqual(positive.place(turn * 4), last)
            self.assertEqual(rows_told(strands, positive.at(4 * len(turn), last)), (tuple(range(strands))[::-1],) * 4)
            self.assertEqual(positive.at(90, 0), (strands - 1,) * 90)

    def test_from_a_place_on(self):
        for strands in range(3, 6):
            positive = Positive(strands)
            for many in (20, 200):
                for start in (0, positive.count(many) // 3, positive.count(many) - 4):
                    told = list(islice(positive.all_from(many, start), 8))
                    self.assertEqual(told, [positive.at(many, start + k) for k in range(len(told))])
                    self.assertEqual(len(told), min(8, positive.count(many) - start))
                self.assertEqual(list(positive.all_from(many, positive.count(many))), [])
                self.assertEqual(list(positive.all_from(many, positive.count(many) * HUGE)), [])

    def test_places_of_drawn_words(self):
        for strands in range(2, 6):
            dice = Dice(60 + strands)
            positive = Positive(strands)
            for length in (30, 3, 120, 500):
                words = [tuple(abs(k) for k in dice.word(strands, length)) for _ in range(6)]
                by_rows = sorted(words, key=lambda word: rows_told(strands, word))
                self.assertEqual(sorted(words, key=positive.place), by_rows)
                for word in words:
                    self.assertEqual(positive.place(form_word(strands, form_of(strands, word))), positive.place(word))


class AskingTest(unittest.TestCase):

    def test_more_and_fewer_crossings_in_any_order(self):
        for strands in range(2, 6):
            told = [Positive(strands).count(many) for many in range(13)]
            for order in (range(13), range(12, -1, -1), (5, 12, 0, 7, 7, 1, 11, 3, 2, 10, 4, 9, 6, 8)):
                positive = Positive(strands)
                for many in order:
                    self.assertEqual(positive.count(many), told[many])
                    self.assertEqual(positive.place(positive.at(many, told[many] - 1)), told[many] - 1)
                    self.assertEqual(positive.count(-many - 1), 0)

    def test_first_question_is_any(self):
        self.assertEqual(Positive(3).place((1, 2, 1, 2, 2)), Positive(3).place((2, 1, 2, 2, 2)))
        self.assertEqual(Positive(4).at(1, 0), (3,))
        self.assertEqual(list(islice(Positive(4).all_from(1, 1), 5)), [(2,), (1,)])
        with self.assertRaises(NoPlait):
            Positive(4).at(3, 19)

    def test_two_generators_side_by_side(self):
        positive = Positive(4)
        told = [positive.at(4, place) for place in range(positive.count(4))]
        one, other = positive.all_from(4, 0), positive.all_from(4, 5)
        for at in range(20):
            self.assertEqual(next(one), told[at])
            self.assertEqual(positive.count(30 + at), Positive(4).count(30 + at))
            self.assertEqual(next(other), told[at + 5])
        self.assertEqual(list(one), told[20:])


if __name__ == "__main__":
    unittest.main()
