"""Point 21: words that lead a plait to another one by conjugation."""

import unittest
from itertools import product

from strandsplaited.closing import pieces, polynomial
from strandsplaited.conjugating import conjugate, leads_by
from strandsplaited.words import total, turned_back, undone
from tests.samples import Dice, changed_by_moves, curve_told, half_turn_word, letters_of


def led(word, by):
    """The word to which a word leads another one by conjugation."""
    return undone(by) + word + by


def some_words(strands):
    """Words of several kinds: short and long ones, of one sense and of both, and such as repeat themselves."""
    dice = Dice(strands)
    words = [(), *[(k,) for k in letters_of(strands)]]
    words += [dice.word(strands, length) for length in (2, 3, 4, 6, 9, 14, 21, 30, 40, 40, 40)]
    words += [tuple(abs(k) for k in dice.word(strands, 40)), tuple(-abs(k) for k in dice.word(strands, 25))]
    words += [dice.word(strands, length) * (40 // length) for length in (2, 3, 5)]
    words += [half_turn_word(strands) * 3, undone(half_turn_word(strands)) * 4, tuple(range(1, strands)) * 7,
              (1,) * 40, (1 - strands,) * 33 + (1,) * 7, tuple(range(1, strands)) * 4 + (1,)]
    if strands == 4:
        words += [(3, 2, 1, 1, 2, 3) * 4 + (1, -2) * 8, (2, 1, 3, 2) * 6 + (1, 1, 3), (1, 3) * 20, (1, -3) * 20,
                  (3, 2, 1, 1, 2, 3) * 2 + (1,) * 20, (1, 1, 1, -2, -2, -2, 3, 3, 3, 3) * 4, (1, -2, 3, -2) * 10,
                  (2, 1, 3, 2) * 5 + (1, -3) * 10]
    return words


def matrix(word):
    """The table of two rows that stands for a word of 3 strands; with the total it tells the plait."""
    a, b, c, d = 1, 0, 0, 1
    for k in word:
        if abs(k) == 1:
            b, d = (a + b, c + d) if k > 0 else (b - a, d - c)
        else:
            a, c = (a - b, c - d) if k > 0 else (a + b, c + d)
    return a, b, c, d


def round_word(table):
    """For a table with a trace beyond 2 its sign and its round word of two letters: they tell its conjugates."""
    a, b, c, d = table
    sign = 1 if a + d > 0 else -1
    found = (a * sign, b * sign, c * sign, d * sign)
    todo = [found]
    known = {found}
    limit = 4 * max(map(abs, table))
    for a, b, c, d in todo:
        if min(a, b, c, d) >= 0:
            found = (a, b, c, d)
            break
        for more in ((a + c, b + d - a - c, c, d - c), (a - c, b - d + a - c, c, d + c),
                     (a + b, b, c + d - a - b, d - b), (a - b, b, c - d + a - b, d + b), (d, -c, -b, a)):
            if more not in known and max(map(abs, more)) <= limit:
                known.add(more)
                todo.append(more)
    a, b, c, d = found
    letters = ""
    while (a, b, c, d) != (1, 0, 0, 1):
        if a >= c and b >= d:
            a, b, letters = a - c, b - d, letters + "R"
        else:
            c, d, letters = c - a, d - b, letters + "L"
    return sign, min(letters[at:] + letters[:at] for at in range(len(letters)))


class ConjugateTest(unittest.TestCase):

    def check(self, strands, one, other):
        """Checks the word that comes back, if one does, and returns whether one does."""
        word = conjugate(strands, one, other)
        if word is None:
            return False
        self.assertIs(type(word), tuple)
        self.assertTrue(all(0 < abs(k) < strands for k in word))
        self.assertEqual(curve_told(strands, led(one, word)), curve_told(strands, other))
        self.assertIs(leads_by(strands, one, word, other), True)
        return True

    def test_empty_word(self):
        for strands in (2, 3, 4):
            self.assertTrue(self.check(strands, (), ()))
            self.assertTrue(self.check(strands, (), (1, -1)))
            self.assertTrue(self.check(strands, (1, -1), ()))
            for k in letters_of(strands):
                self.assertIsNone(conjugate(strands, (), (k,)))
                self.assertIsNone(conjugate(strands, (k,), ()))
        for word in ((1, -2), (1, 2, -1, -2), (1, 1, -2, -2)):
            self.assertIsNone(conjugate(3, (), word))
            self.assertIsNone(conjugate(4, word, ()))

    def test_a_word_and_itself(self):
        for strands in (2, 3, 4):
            for word in some_words(strands):
                self.assertTrue(self.check(strands, word, word))

    def test_words_that_were_led(self):
        for strands in (2, 3, 4):
            dice = Dice(10 + strands)
            for word in some_words(strands):
                for length in (1, 4, 12, 40):
                    other = led(word, dice.word(strands, length))
                    self.assertTrue(self.check(strands, word, other))
                    self.assertTrue(self.check(strands, other, word))

    def test_words_that_were_led_with_moves_behind(self):
        for strands in (2, 3, 4):
            dice = Dice(20 + strands)
            for _ in range(12):
                word = dice.word(strands, 16)
                other = led(word, dice.word(strands, 8))
                _, other = changed_by_moves(dice, strands, other, 40)
                self.assertTrue(self.check(strands, word, other))
                self.assertTrue(self.check(strands, other, word))

    def test_turned_round(self):
        for strands in (2, 3, 4):
            for word in some_words(strands):
                at = len(word) // 3
                self.assertTrue(self.check(strands, word, word[at:] + word[:at]))

    def test_letters_and_half_turns(self):
        for strands in (3, 4):
            turn = half_turn_word(strands)
            for a in range(1, strands):
                for b in range(1, strands):
                    self.assertTrue(self.check(strands, (a,), (b,)))
                    self.assertTrue(self.check(strands, (-a,), (-b,)))
                    self.assertFalse(self.check(strands, (-a,), (b,)))
                    self.assertFalse(self.check(strands, (a, a), (b,)))
            self.assertTrue(self.check(strands, turn + (1,), turn + (strands - 1,)))
            self.assertTrue(self.check(strands, turn * 2 + (1, 2), (2, 1) + turn * 2))
        self.assertTrue(self.check(4, (1, 2, 3), (3, 2, 1)))
        self.assertTrue(self.check(4, (1, 2, 3), (1, 3, 2)))
        self.assertFalse(self.check(4, (1, 1, 3), (1, 2, 3)))
        self.assertFalse(self.check(4, (1, 3), (1, 2)))
        self.assertFalse(self.check(4, (1, 1), (1, 3)))

    def test_two_strands(self):
        for one in range(-4, 5):
            for other in range(-4, 5):
                words = [(1,) * many if many > 0 else (-1,) * -many for many in (one, other)]
                self.assertEqual(self.check(2, *words), one == other)

    def test_other_totals(self):
        for strands in (2, 3, 4):
            for word in some_words(strands):
                for other in (word + (1,), word + (-1,), word + (1,) * 3, word[1:]):
                    if total(other) != total(word):
                        self.assertIsNone(conjugate(strands, word, other))

    def test_other_pieces_or_other_polynomials(self):
        none = 0
        for strands in (3, 4):
            dice = Dice(30 + strands)
            for _ in range(150):
                one, other = dice.word(strands, 12), dice.word(strands, 12)
                told = self.check(strands, one, other)
                sizes = [sorted(len(piece) for piece in pieces(strands, word)) for word in (one, other)]
                unlike = (total(one) != total(other) or sizes[0] != sizes[1]
                          or polynomial(strands, one) != polynomial(strands, other))
                if unlike:
                    self.assertFalse(told)
                    none += 1
        self.assertGreater(none, 100)

    def test_turned_back_words_both_ways_round(self):
        answers = []
        for strands in (2, 3, 4):
            for word in some_words(strands):
                told = self.check(strands, word, turned_back(word))
                self.assertEqual(self.check(strands, turned_back(word), word), told)
                answers.append(told)
        self.assertIn(True, answers)
        self.assertIn(False, answers)

    def test_three_strands_by_tables_of_two_rows(self):
        dice = Dice(7)
        answers = []
        while len(answers) < 150:
            one = dice.word(3, 6 + dice.below(14))
            other = turned_back(one) if dice.below(3) else dice.word(3, len(one))
            traces = [table[0] + table[3] for table in (matrix(one), matrix(other))]
            if abs(traces[0]) <= 2 or abs(traces[1]) <= 2 or total(one) != total(other):
                continue
            answers.append(round_word(matrix(one)) == round_word(matrix(other)))
            self.assertEqual(self.check(3, one, other), answers[-1])
        self.assertGreater(answers.count(True), 10)
        self.assertGreater(answers.count(False), 10)

    def test_all_plaits_of_few_letters(self):
        # Plaits that single letters lead to one another, again and again, have to be found conjugates.
        for strands, most in ((3, 4), (4, 3)):
            words = [word for length in range(most + 1) for word in product(letters_of(strands), repeat=length)]
            plaits = {}
            for word in words:
                plaits.setdefault(curve_told(strands, word), word)
            groups = {curve: [curve] for curve in plaits}
            for curve, word in plaits.items():
                for k in letters_of(strands):
                    other = curve_told(strands, led(word, (k,)))
                    if other in groups and groups[other] is not groups[curve]:
                        one, more = groups[curve], groups[other]
                        one.extend(more)
                        for each in more:
                            groups[each] = one
            for group in {id(group): group for group in groups.values()}.values():
                for curve in group[1:]:
                    self.assertTrue(self.check(strands, plaits[group[0]], plaits[curve]))

    def test_like_an_equality(self):
        for strands in (3, 4):
            words = [word for word in product(letters_of(strands), repeat=2) if total(word) == 0]
            words += [word[:1] + word for word in product((1, 2, -2), repeat=2)]
            told = {(one, other): self.check(strands, one, other) for one in words for other in words}
            for one, other in told:
                self.assertEqual(told[one, other], told[other, one])
                for third in words:
                    if told[one, other] and told[other, third]:
                        self.assertTrue(told[one, third])

    def test_far_from_one_another(self):
        dice = Dice(50)
        for word in ((1,), (1, -2, 3), (1, -2, 3, 3, -2, 1, 1, -3), dice.word(4, 15)):
            self.assertTrue(self.check(4, word, led(word, dice.word(4, 120))))


class LeadsByTest(unittest.TestCase):

    def test_what_the_curves_say(self):
        for strands in (2, 3, 4):
            dice = Dice(strands)
            for _ in range(30):
                one, word, other = (dice.word(strands, dice.below(6)) for _ in range(3))
                told = curve_told(strands, led(one, word)) == curve_told(strands, other)
                self.assertIs(leads_by(strands, one, word, other), told)
                self.assertIs(leads_by(strands, one, word, led(one, word)), True)
                self.assertIs(leads_by(strands, one, (), one), True)

    def test_the_undone_word_stands_in_front(self):
        self.assertIs(leads_by(3, (1,), (2,), (-2, 1, 2)), True)
        self.assertIs(leads_by(3, (1,), (2,), (2, 1, -2)), False)
        self.assertIs(leads_by(3, (1,), (-2,), (2, 1, -2)), True)
        self.assertIs(leads_by(3, (1,), (2, 1), (2,)), True)
        self.assertIs(leads_by(3, (1,), (1, 2), (2,)), False)
        self.assertIs(leads_by(3, (2,), (2, 1), (2,)), False)
        self.assertIs(leads_by(3, (1,), (-2, -1), (2,)), True)
        self.assertIs(leads_by(3, (1,), (-1, -2), (2,)), False)
        self.assertIs(leads_by(3, (1,), (2, 1), (1,)), False)
        self.assertIs(leads_by(3, (2,), (1, 2), (1,)), True)
        self.assertIs(leads_by(3, (1,), (2, 1), (-1, -2, 1, 2, 1)), True)

    def test_words_that_lead_elsewhere(self):
        for strands in (2, 3, 4):
            dice = Dice(10 + strands)
            for _ in range(20):
                one, by = dice.word(strands, 12), dice.word(strands, 6)
                other = led(one, by)
                self.assertIs(leads_by(strands, one, by, other + (1,)), False)
                self.assertIs(leads_by(strands, one, by, other + (1 - strands,)), False)
                word = by + dice.word(strands, 3)
                self.assertIs(leads_by(strands, one, word, other),
                              curve_told(strands, led(one, word)) == curve_told(strands, other))

    def test_long_words(self):
        dice = Dice(30)
        one = dice.word(4, 40)
        by = dice.word(4, 500)
        self.assertIs(leads_by(4, one, by, led(one, by)), True)
        self.assertIs(leads_by(4, one, by, led(one, by) + (2,)), False)


if __name__ == "__main__":
    unittest.main()
