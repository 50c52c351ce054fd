"""Points 13 and 16: the wordings of a row, and their places."""

import unittest
from itertools import islice, permutations

from strandsplaited.errors import NoPlait
from strandsplaited.rows import crossings, half_turn, plain_row, row_of, starts, word_of_row
from strandsplaited.wordings import Wordings
from tests.samples import Dice, curve_told

HUGE = 10**25


def without_first(row, letter):
    """The row of what is left of a row that begins with the letter, if this one is taken away."""
    changed = {letter: letter - 1, letter - 1: letter}
    return tuple(changed.get(strand, strand) for strand in row)


def all_wordings(row):
    """All wordings of the row, by taking away first letters, in the order of tuples."""
    found = []
    todo = [((), row)]
    while todo:
        word, left = todo.pop()
        begins = [k for k in range(1, len(left)) if left.index(k) < left.index(k - 1)]
        if not begins:
            found.append(word)
        for k in begins:
            todo.append((word + (k,), without_first(left, k)))
    return sorted(found)


def rows_with_many_crossings(strands, many):
    """Rows that are drawn, and the half turn."""
    dice = Dice(strands)
    return [half_turn(strands)] + [row_of(strands, dice.word(strands, 60)) for _ in range(many)]


class SmallRowsTest(unittest.TestCase):

    def check(self, row):
        told = all_wordings(row)
        wordings = Wordings(row)
        self.assertEqual(wordings.count(), len(told))
        self.assertIs(type(wordings.count()), int)
        self.assertEqual([wordings.wording(place) for place in range(len(told))], told)
        self.assertEqual([wordings.place(word) for word in told], list(range(len(told))))
        for start in (0, 1, 2, len(told) // 2, len(told) - 1, len(told), len(told) + 1, HUGE):
            self.assertEqual(list(wordings.wordings(start)), told[start:])
        for place in (-1, -2, -HUGE, len(told), len(told) + 1, HUGE):
            with self.assertRaises(NoPlait):
                wordings.wording(place)
        for word in told[:40]:
            self.assertIs(type(wordings.wording(0)), tuple)
            self.assertEqual(row_of(len(row), word), row)
            self.assertEqual(len(word), crossings(row))
        self.assertEqual(wordings.wording(0), word_of_row(row))

    def test_all_rows_of_two_to_four_strands(self):
        for strands in (2, 3, 4):
            for row in permutations(range(strands)):
                self.check(row)

    def test_rows_of_five_strands(self):
        for row in list(permutations(range(5)))[::7] + [plain_row(5), half_turn(5)]:
            self.check(row)

    def test_known_counts(self):
        self.assertEqual([Wordings(half_turn(strands)).count() for strands in range(2, 6)], [1, 2, 16, 768])
        self.assertEqual(list(Wordings((2, 1, 0)).wordings(0)), [(1, 2, 1), (2, 1, 2)])

    def test_plain_row(self):
        for strands in range(2, 9):
            wordings = Wordings(plain_row(strands))
            self.assertEqual(wordings.count(), 1)
            self.assertEqual(wordings.wording(0), ())
            self.assertEqual(wordings.place(()), 0)
            self.assertEqual(list(wordings.wordings(0)), [()])
            self.assertEqual(list(wordings.wordings(1)), [])
            for word in ((1,), (-1,), (1, 1), (1, -1)):
                with self.assertRaises(NoPlait):
                    wordings.place(word)

    def test_words_that_are_no_wordings(self):
        for row in ((1, 0, 2), (2, 1, 0), (3, 0, 2, 1), (3, 2, 1, 0), (4, 3, 2, 1, 0), (1, 0, 3, 2, 4)):
            strands = len(row)
            wordings = Wordings(row)
            told = set(all_wordings(row))
            words = {(), (1,), (-1,)}
            for word in list(told)[:20]:
                for at in range(len(word) + 1):
                    for letter in range(1 - strands, strands):
                        if letter:
                            words.add(word[:at] + (letter,) + word[at + 1:])
                            words.add(word[:at] + (letter,) + word[at:])
                    words.add(word[:at])
                    words.add(word[:at] + word[at + 1:])
                    words.add(word[at:] + word[:at])
            for word in sorted(words):
                if word in told:
                    self.assertEqual(wordings.wording(wordings.place(word)), word)
                else:
                    with self.assertRaises(NoPlait):
                        wordings.place(word)
            with self.assertRaises(NoPlait):
                wordings.place((1,) * 500)


class LargeRowsTest(unittest.TestCase):

    def test_count_is_the_sum_of_what_is_left(self):
        for strands in (5, 6, 7):
            for row in rows_with_many_crossings(strands, 6):
                left = [Wordings(without_first(row, letter)).count() for letter in starts(row)]
                self.assertEqual(Wordings(row).count(), sum(left) if left else 1)

    def test_more_than_can_be_listed(self):
        self.assertEqual(Wordings(half_turn(6)).count(), 292864)
        self.assertEqual(Wordings(half_turn(7)).count(), 1100742656)
        self.assertEqual(Wordings(half_turn(8)).count(), 48608795688960)

    def test_drawn_places_come_back_and_wordings_ascend(self):
        for strands in (5, 6, 7, 8):
            for row in rows_with_many_crossings(strands, 3):
                dice = Dice(strands)
                wordings = Wordings(row)
                count = wordings.count()
                places = sorted({0, count - 1} | {dice.below(count) for _ in range(40)})
                words = [wordings.wording(place) for place in places]
                self.assertEqual(words, sorted(words))
                self.assertEqual([wordings.place(word) for word in words], places)
                for word in words:
                    self.assertEqual(row_of(strands, word), row)
                    self.assertEqual(len(word), crossings(row))
                self.assertEqual(words[0], word_of_row(row))
                self.assertEqual(curve_told(strands, words[-1]), curve_told(strands, words[0]))
                for place in (-1, count, count + 1, HUGE, -HUGE):
                    with self.assertRaises(NoPlait):
                        wordings.wording(place)

    def test_neighbours_from_a_place_on(self):
        for strands in (6, 7, 8):
            wordings = Wordings(half_turn(strands))
            for start in (0, 1, wordings.count() // 3, wordings.count() - 5):
                told = list(islice(wordings.wordings(start), 10))
                self.assertEqual(told, [wordings.wording(start + k) for k in range(len(told))])
                self.assertEqual(len(told), min(10, wordings.count() - start))
                self.assertEqual(told, sorted(set(told)))
            self.assertEqual(list(wordings.wordings(wordings.count())), [])
            self.assertEqual(list(wordings.wordings(HUGE)), [])


class AskingTest(unittest.TestCase):

    def test_asking_changes_no_later_answer(self):
        row = (3, 1, 4, 0, 2)
        told = all_wordings(row)
        for first in range(5):
            wordings = Wordings(row)
            for deed in range(first, first + 5):
                if deed % 5 == 0:
                    self.assertEqual(wordings.count(), len(told))
                elif deed % 5 == 1:
                    self.assertEqual(wordings.wording(len(told) - 1), told[-1])
                elif deed % 5 == 2:
                    self.assertEqual(wordings.place(told[1]), 1)
                elif deed % 5 == 3:
                    self.assertEqual(list(wordings.wordings(0)), told)
                else:
                    for call, item in ((wordings.wording, len(told)), (wordings.place, (1, 1)), (wordings.place, ())):
                        with self.assertRaises(NoPlait):
                            call(item)

    def test_two_generators_side_by_side(self):
        wordings = Wordings(half_turn(4))
        told = all_wordings(half_turn(4))
        one, other = wordings.wordings(0), wordings.wordings(3)
        for at in range(13):
            self.assertEqual(next(one), told[at])
            self.assertEqual(next(other), told[at + 3])
            self.assertEqual(wordings.wording(at), told[at])
            self.assertEqual(wordings.place(told[-1]), len(told) - 1)
        self.assertEqual(list(other), [])
        self.assertEqual(list(one), told[13:])

    def test_two_objects(self):
        one, other = Wordings((1, 0, 2)), Wordings((0, 2, 1))
        self.assertEqual([one.wording(0), other.wording(0)], [(1,), (2,)])
        self.assertEqual([one.place((1,)), other.place((2,))], [0, 0])
        with self.assertRaises(NoPlait):
            one.place((2,))


if __name__ == "__main__":
    unittest.main()
