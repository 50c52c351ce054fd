"""Points 22 to 25: pieces and links of closed plaits, their polynomials, and their colourings."""

import unittest
from fractions import Fraction
from itertools import combinations, permutations, product
from math import gcd

from strandsplaited.closing import colourings, linked, pieces, polynomial
from strandsplaited.words import mirrored, turned_back, undone
from tests.samples import Dice, changed_by_moves, half_turn_word, letters_of


def some_words(strands):
    """Words of several kinds, of up to 40 letters."""
    dice = Dice(strands)
    words = [(), *[(k,) for k in letters_of(strands)], tuple(range(1, strands)), tuple(range(-1, -strands, -1))]
    words += [dice.word(strands, length) for length in (2, 3, 5, 8, 12, 17, 25, 40, 40)]
    words += [tuple(abs(k) for k in dice.word(strands, 40)), tuple(-abs(k) for k in dice.word(strands, 33))]
    words += [(half_turn_word(strands) * 2)[:40], (1,) * 40, (1 - strands,) * 39]
    return words


def same_closed(dice, strands, word):
    """Words of the three kinds of point 25, as pairs of a number of strands and of a word."""
    by = dice.word(strands, 4)
    _, moved = changed_by_moves(dice, strands, word, 15)
    return [(strands, moved), (strands, undone(by) + word + by), (strands + 1, word + (strands,)),
            (strands + 1, word + (-strands,))]


def pieces_told(strands, word):
    """The pieces, each strand followed through the word again and again."""

    def place_behind(place):
        for letter in word:
            if place == abs(letter) - 1:
                place += 1
            elif place == abs(letter):
                place -= 1
        return place

    found = set()
    for first in range(strands):
        piece = [first]
        while place_behind(piece[-1]) != first:
            piece.append(place_behind(piece[-1]))
        found.add(tuple(sorted(piece)))
    return sorted(found)


def linked_told(strands, word):
    """The links, each two pieces along the whole word."""
    told = pieces_told(strands, word)
    found = []
    for one, other in combinations(range(len(told)), 2):
        row = list(range(strands))
        doubled = 0
        for letter in word:
            at = abs(letter)
            pair = {row[at - 1], row[at]}
            if pair & set(told[one]) and pair & set(told[other]):
                doubled += 1 if letter > 0 else -1
            row[at - 1:at + 1] = row[at - 1:at + 1][::-1]
        found.append((one, other, Fraction(doubled, 2)))
    return found


class PiecesTest(unittest.TestCase):

    def check(self, strands, word):
        told = pieces(strands, word)
        self.assertEqual(told, pieces_told(strands, word))
        links = linked(strands, word)
        self.assertEqual(links, linked_told(strands, word))
        for found in (told, links):
            self.assertIs(type(found), list)
            self.assertTrue(all(type(item) is tuple for item in found))
        self.assertTrue(all(type(link) is int for _, _, link in links))

    def test_empty_word(self):
        for strands in range(2, 9):
            self.assertEqual(pieces(strands, ()), [(k,) for k in range(strands)])
            self.assertEqual(linked(strands, ()), [(a, b, 0) for a, b in combinations(range(strands), 2)])

    def test_small_words(self):
        self.assertEqual(pieces(2, (1,)), [(0, 1)])
        self.assertEqual(linked(2, (1,)), [])
        self.assertEqual(linked(2, (1, 1)), [(0, 1, 1)])
        self.assertEqual(linked(2, (-1,) * 6), [(0, 1, -3)])
        self.assertEqual(linked(2, (1, -1)), [(0, 1, 0)])
        self.assertEqual(pieces(4, (1, 3)), [(0, 1), (2, 3)])
        self.assertEqual(pieces(4, (2, 1, 3, 2)), [(0, 2), (1, 3)])
        self.assertEqual(linked(4, (2, 1, 3, 2)), [(0, 1, 1)])
        self.assertEqual(linked(3, (1, 1, -2, -2)), [(0, 1, 1), (0, 2, 0), (1, 2, -1)])
        self.assertEqual(pieces(8, (7, 7, 1)), [(0, 1), (2,), (3,), (4,), (5,), (6,), (7,)])
        self.assertEqual(linked(3, half_turn_word(3) * 2), [(0, 1, 1), (0, 2, 1), (1, 2, 1)])

    def test_words(self):
        for strands in range(2, 9):
            for word in some_words(strands):
                self.check(strands, word)

    def test_all_short_words(self):
        for strands, most in ((2, 6), (3, 4), (4, 3)):
            for length in range(most + 1):
                for word in product(letters_of(strands), repeat=length):
                    self.check(strands, word)

    def test_lists_are_the_caller_s_own(self):
        for ask in (pieces, linked):
            told = ask(3, (1, 1))
            told.append("changed")
            self.assertNotIn("changed", ask(3, (1, 1)))

    def test_how_many_stays(self):
        for strands in range(2, 8):
            dice = Dice(20 + strands)
            for length in (3, 10, 30):
                word = dice.word(strands, length)
                for more, other in same_closed(dice, strands, word):
                    self.assertEqual(len(pieces(more, other)), len(pieces(strands, word)))
                    self.assertEqual(sorted(link for _, _, link in linked(more, other)),
                                     sorted(link for _, _, link in linked(strands, word)))


def determinant_at(strands, word, t):
    """The determinant of point 23 for one number in the place of t."""
    size = strands - 1
    table = [[Fraction(int(a == b)) for b in range(size)] for a in range(size)]
    for letter in word:
        at = abs(letter) - 1
        row = (t, -t, 1) if letter > 0 else (1, Fraction(-1, t), Fraction(1, t))
        for items in table:
            crossed = items[at]
            items[at] = crossed * row[1]
            if at > 0:
                items[at - 1] += crossed * row[0]
            if at + 1 < size:
                items[at + 1] += crossed * row[2]
    rest = [[int(a == b) - table[a][b] for b in range(size)] for a in range(size)]
    value = Fraction(1)
    for at in range(size):
        pivot = next((k for k in range(at, size) if rest[k][at]), None)
        if pivot is None:
            return Fraction(0)
        if pivot != at:
            rest[at], rest[pivot] = rest[pivot], rest[at]
            value = -value
        value *= rest[at][at]
        for k in range(at + 1, size):
            factor = rest[k][at] / rest[at][at]
            rest[k] = [x - factor * y for x, y in zip(rest[k], rest[at])]
    return value


class PolynomialTest(unittest.TestCase):

    def check(self, strands, word):
        """Checks the polynomial by a number in the place of t that is beyond all coefficients."""
        told = polynomial(strands, word)
        self.assertIs(type(told), tuple)
        self.assertTrue(all(type(number) is int for number in told))
        self.assertLess(max(map(abs, told), default=0), 10**30)
        if told:
            self.assertGreater(told[0], 0)
            self.assertNotEqual(told[-1], 0)
        t = 10**31 + 33
        value = abs(determinant_at(strands, word, t)) / sum(t**k for k in range(strands))
        mine = abs(sum(number * t**k for k, number in enumerate(told)))
        if mine:
            while value.denominator > 1:
                value *= t
            while value.numerator % t == 0:
                value /= t
        self.assertEqual(value, mine)
        if len(pieces(strands, word)) == 1:
            self.assertIn(sum(told), (1, -1))
        else:
            self.assertEqual(sum(told), 0)
        return told

    def test_examples(self):
        self.assertEqual([polynomial(2, (1, 1, 1)), polynomial(3, (1, -2, 1, -2)), polynomial(2, ())],
                         [(1, -1, 1), (1, -3, 1), ()])

    def test_empty_word(self):
        for strands in range(2, 7):
            self.assertEqual(polynomial(strands, ()), ())
            self.assertEqual(polynomial(strands, (1, -1)), ())

    def test_two_strands(self):
        self.assertEqual([polynomial(2, (1,) * many) for many in (1, 2, 4, 5)],
                         [(1,), (1, -1), (1, -1, 1, -1), (1, -1, 1, -1, 1)])
        for many in range(41):
            told = tuple(1 - 2 * (k & 1) for k in range(many))
            self.assertEqual(polynomial(2, (1,) * many), told)
            self.assertEqual(polynomial(2, (-1,) * many), told)

    def test_known_words(self):
        self.assertEqual(polynomial(3, (1, 1, 1, 2, -1, 2)), (2, -3, 2))
        self.assertEqual(polynomial(3, (1, 1, 1, -2, 1, -2)), (1, -3, 3, -3, 1))
        self.assertEqual(polynomial(3, (1, 1, -2, 1, -2, -2)), (1, -3, 5, -3, 1))
        self.assertEqual(polynomial(4, (1, 1, 2, -1, -3, 2, -3)), (2, -5, 2))
        self.assertEqual(polynomial(3, (1, 2) * 4), (1, -1, 0, 1, 0, -1, 1))
        for strands in range(2, 7):
            self.assertEqual(polynomial(strands, tuple(range(1, strands))), (1,))
            self.assertEqual(polynomial(strands, tuple(range(-1, -strands, -1))), (1,))

    def test_words(self):
        for strands in range(2, 7):
            for word in some_words(strands):
                self.check(strands, word)

    def test_all_short_words(self):
        for strands, most in ((2, 4), (3, 4), (4, 3)):
            for length in range(most + 1):
                for word in product(letters_of(strands), repeat=length):
                    self.check(strands, word)

    def test_one_piece_reads_the_same_from_both_ends(self):
        # This is known of closed plaits of one piece, though the document does not tell it.
        for strands in range(2, 7):
            dice = Dice(10 + strands)
            for _ in range(10):
                word = dice.word(strands, 20)
                told = polynomial(strands, word)
                if len(pieces(strands, word)) == 1:
                    self.assertEqual(told, told[::-1] if told[-1] > 0 else tuple(-k for k in told[::-1]))
                    self.assertEqual(polynomial(strands, mirrored(word)), told)
                    self.assertEqual(polynomial(strands, turned_back(word)), told)

    def test_stays(self):
        for strands in range(2, 7):
            dice = Dice(20 + strands)
            for length in (0, 1, 4, 10, 24):
                word = dice.word(strands, length)
                told = self.check(strands, word)
                for more, other in same_closed(dice, strands, word):
                    self.assertEqual(polynomial(more, other), told)


def colourings_told(strands, word, colours):
    """How many rows of colours come back, all of them tried."""
    many = 0
    for first in product(range(colours), repeat=strands):
        row = list(first)
        for letter in word:
            at = abs(letter)
            x, y = row[at - 1], row[at]
            row[at - 1], row[at] = ((2 * x - y) % colours, x) if letter > 0 else (y, (2 * y - x) % colours)
        many += tuple(row) == first
    return many


def determinant_of(table):
    """The determinant of a table of integers, by all permutations."""
    value = 0
    for choice in permutations(range(len(table))):
        part = 1
        for a, b in combinations(choice, 2):
            part = -part if a > b else part
        for at, column in enumerate(choice):
            part *= table[at][column]
        value += part
    return value


def colourings_by_tables(strands, word, colours):
    """How many colourings there are, by the greatest common divisors of all determinants of each size."""
    sums = [[int(a == b) for b in range(strands)] for a in range(strands)]
    for letter in word:
        at = abs(letter)
        x, y = sums[at - 1], sums[at]
        if letter > 0:
            sums[at - 1:at + 1] = [[2 * a - b for a, b in zip(x, y)], x]
        else:
            sums[at - 1:at + 1] = [y, [2 * b - a for a, b in zip(x, y)]]
    rest = [[sums[a][b] - (a == b) for b in range(strands)] for a in range(strands)]
    many, before = 1, 1
    for size in range(1, strands + 1):
        common = 0
        for rows in combinations(range(strands), size):
            for columns in combinations(range(strands), size):
                common = gcd(common, determinant_of([[rest[a][b] for b in columns] for a in rows]))
        many *= gcd(common // before if before else 0, colours)
        before = common
    return many


class ColouringsTest(unittest.TestCase):

    def test_one_colour(self):
        for strands in range(2, 9):
            for word in some_words(strands):
                self.assertEqual(colourings(strands, word, 1), 1)

    def test_two_colours(self):
        for strands in range(2, 9):
            for word in some_words(strands):
                self.assertEqual(colourings(strands, word, 2), 2**len(pieces(strands, word)))

    def test_small_words(self):
        self.assertEqual(colourings(2, (1, 1, 1), 3), 9)
        self.assertEqual(colourings(2, (1, 1, 1), 5), 5)
        self.assertEqual(colourings(2, (-1, -1, -1), 6), 36 // 2)
        self.assertEqual(colourings(3, (1, -2, 1, -2), 5), 25)
        self.assertEqual(colourings(3, (1, -2, 1, -2), 3), 3)
        self.assertEqual(colourings(2, (1,) * 40, 1000), 40 * 1000)
        self.assertEqual(colourings(2, (1,) * 40, 1000), colourings(2, (-1,) * 40, 1000))

    def test_empty_word(self):
        for strands in range(2, 9):
            for colours in (1, 2, 3, 10, 997, 1000):
                self.assertEqual(colourings(strands, (), colours), colours**strands)

    def test_against_all_rows_of_colours(self):
        for strands in range(2, 6):
            for word in some_words(strands)[::3]:
                for colours in (1, 2, 3, 4, 5, 6, 7, 8, 9, 12, 15, 30):
                    if colours**strands < 800:
                        told = colourings(strands, word, colours)
                        self.assertIs(type(told), int)
                        self.assertEqual(told, colourings_told(strands, word, colours))

    def test_all_short_words(self):
        for length in range(5):
            for word in product(letters_of(3), repeat=length):
                for colours in (3, 4, 5):
                    self.assertEqual(colourings(3, word, colours), colourings_told(3, word, colours))

    def test_many_colours(self):
        for strands in range(2, 6):
            dice = Dice(strands)
            for length in (2, 6, 13, 40, 40):
                word = dice.word(strands, length)
                for colours in (2, 9, 16, 97, 105, 210, 360, 512, 625, 720, 840, 997, 999, 1000):
                    self.assertEqual(colourings(strands, word, colours), colourings_by_tables(strands, word, colours))

    def test_products_of_colours(self):
        for strands in range(2, 9):
            dice = Dice(30 + strands)
            word = dice.word(strands, 40)
            for one, other in ((2, 3), (4, 9), (8, 125), (27, 37), (31, 32), (3, 331), (25, 36)):
                self.assertEqual(colourings(strands, word, one * other),
                                 colourings(strands, word, one) * colourings(strands, word, other))

    def test_stays(self):
        for strands in range(2, 8):
            dice = Dice(50 + strands)
            for length in (0, 2, 8, 24):
                word = dice.word(strands, length)
                for more, other in same_closed(dice, strands, word):
                    for colours in (1, 2, 3, 4, 7, 15, 36, 990, 1000):
                        self.assertEqual(colourings(more, other, colours), colourings(strands, word, colours))


if __name__ == "__main__":
    unittest.main()
