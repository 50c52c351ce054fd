"""Point 15: normal forms, their words, their products, and what is a form."""

import unittest
from itertools import permutations, product as tuples_of

from strandsplaited.forms import form_of, form_word, is_form, product, undone_form
from strandsplaited.rows import word_of_row
from strandsplaited.words import undone
from tests.samples import Dice, changed_by_moves, curve_told, half_turn_word, letters_of

HUGE = 10**25


def turns_word(strands, turns):
    """A word of so many half turns."""
    turn = half_turn_word(strands)
    return turn * turns if turns > 0 else undone(turn) * -turns


def form_told(strands, form):
    """Tells whether the pair is a form, by the words of points 12, 13 and 15."""
    plain = tuple(range(strands))
    for row in form[1]:
        if tuple(sorted(row)) != plain or row == plain or row == plain[::-1]:
            return False
    for row, later in zip(form[1], form[1][1:]):
        begins = {k for k in range(1, strands) if later.index(k) < later.index(k - 1)}
        if not begins <= {k for k in range(1, strands) if row[k - 1] > row[k]}:
            return False
    return True


def some_words(strands):
    """Words of several kinds: short and long ones, of letters of one sign and of both."""
    dice = Dice(strands)
    words = [(), *[(k,) for k in letters_of(strands)]]
    words += [dice.word(strands, length) for length in (2, 3, 5, 8, 13, 21, 34)]
    positive = [abs(k) for k in dice.word(strands, 40)]
    negative = [-abs(k) for k in dice.word(strands, 40)]
    words += [tuple(positive), tuple(negative), tuple(positive + negative), tuple(negative + positive)]
    words += [turns_word(strands, 3), turns_word(strands, -2), tuple(range(1, strands)) * 4]
    return words


class FormOfTest(unittest.TestCase):

    def check(self, strands, word):
        form = form_of(strands, word)
        self.assertIs(type(form), tuple)
        turns, rows = form
        self.assertIs(type(turns), int)
        self.assertIs(type(rows), tuple)
        self.assertTrue(all(type(row) is tuple for row in rows))
        self.assertTrue(form_told(strands, form))
        behind = sum((word_of_row(row) for row in rows), ())
        self.assertEqual(curve_told(strands, turns_word(strands, turns) + behind), curve_told(strands, word))
        return form

    def test_example(self):
        self.assertEqual(form_of(3, (1, -2)), (-1, ((0, 2, 1), (2, 0, 1))))

    def test_empty_word(self):
        for strands in range(2, 9):
            self.assertEqual(form_of(strands, ()), (0, ()))

    def test_one_letter(self):
        for strands in range(3, 9):
            plain = list(range(strands))
            for k in range(1, strands):
                row = plain[:k - 1] + [k, k - 1] + plain[k + 1:]
                self.assertEqual(form_of(strands, (k,)), (0, (tuple(row),)))
                rest = plain[::-1]
                rest[k - 1:k + 1] = rest[k - 1:k + 1][::-1]
                self.assertEqual(form_of(strands, (-k,)), (-1, (tuple(rest),)))
                self.check(strands, (k,))
                self.check(strands, (-k,))
        self.assertEqual(form_of(3, (-1,)), (-1, ((1, 2, 0),)))
        self.assertEqual(form_of(4, (-1,)), (-1, ((2, 3, 1, 0),)))

    def test_two_strands(self):
        for many in range(8):
            self.assertEqual(form_of(2, (1,) * many), (many, ()))
            self.assertEqual(form_of(2, (-1,) * many), (-many, ()))
        self.assertEqual(form_of(2, (1, -1, -1, 1, 1)), (1, ()))

    def test_half_turns(self):
        for strands in range(2, 9):
            for turns in range(-5, 6):
                self.assertEqual(form_of(strands, turns_word(strands, turns)), (turns, ()))

    def test_words_of_each_number_of_strands(self):
        for strands in range(2, 9):
            for word in some_words(strands):
                self.check(strands, word)

    def test_long_words(self):
        for strands in range(2, 9):
            dice = Dice(10 + strands)
            self.check(strands, dice.word(strands, 500))
            self.check(strands, tuple(-abs(k) for k in dice.word(strands, 250)) + dice.word(strands, 250))

    def test_alike_by_moves(self):
        for strands in range(2, 9):
            dice = Dice(30 + strands)
            for _ in range(6):
                word = dice.word(strands, 15)
                _, other = changed_by_moves(dice, strands, word, 50)
                self.assertEqual(form_of(strands, word), form_of(strands, other))

    def test_one_form_exactly_for_each_curve(self):
        for strands, most in ((2, 6), (3, 5), (4, 3)):
            told = {}
            for length in range(most + 1):
                for word in tuples_of(letters_of(strands), repeat=length):
                    told.setdefault(curve_told(strands, word), set()).add(form_of(strands, word))
            self.assertTrue(all(len(forms) == 1 for forms in told.values()))
            self.assertEqual(len(set().union(*told.values())), len(told))

    def test_form_of_a_form_s_word(self):
        for strands in range(2, 9):
            for word in some_words(strands):
                form = form_of(strands, word)
                self.assertEqual(form_of(strands, form_word(strands, form)), form)


class FormWordTest(unittest.TestCase):

    def test_half_turns_alone(self):
        for strands in range(2, 9):
            turn = word_of_row(tuple(range(strands))[::-1])
            self.assertEqual(form_word(strands, (0, ())), ())
            self.assertEqual(form_word(strands, (1, ())), turn)
            self.assertEqual(form_word(strands, (3, ())), turn * 3)
            self.assertEqual(form_word(strands, (-1, ())), undone(turn))
            self.assertEqual(form_word(strands, (-50, ())), undone(turn) * 50)

    def test_rows(self):
        rows = ((0, 2, 1), (2, 0, 1))
        self.assertEqual(form_word(3, (0, rows)), (2, 2, 1))
        self.assertEqual(form_word(3, (2, rows)), (1, 2, 1, 1, 2, 1, 2, 2, 1))
        self.assertEqual(form_word(3, (-1, rows)), (-1, -2, -1, 2, 2, 1))
        self.assertEqual(form_word(4, (-1, ((1, 0, 3, 2),))), (-1, -2, -3, -1, -2, -1, 1, 3))

    def test_kind(self):
        for form in ((0, ()), (1, ()), (-1, ()), (-1, ((0, 2, 1), (2, 0, 1)))):
            self.assertIs(type(form_word(3, form)), tuple)

    def test_many_rows(self):
        rows = ((1, 0, 3, 2),) * 100
        self.assertEqual(form_word(4, (0, rows)), (1, 3) * 100)


class ProductTest(unittest.TestCase):

    def test_words_behind_one_another(self):
        for strands in range(2, 9):
            words = some_words(strands)[::3]
            for one, other in tuples_of(words, repeat=2):
                told = product(strands, form_of(strands, one), form_of(strands, other))
                self.assertEqual(told, form_of(strands, one + other))
                self.assertIs(type(told[1]), tuple)

    def test_examples(self):
        self.assertEqual(product(3, (0, ((1, 0, 2),)), (0, ((0, 2, 1),))), (0, ((1, 2, 0),)))
        self.assertEqual(product(3, (0, ((1, 0, 2),)), (0, ((1, 0, 2),))), (0, ((1, 0, 2), (1, 0, 2))))
        self.assertEqual(product(3, (0, ((1, 0, 2),)), (1, ())), (1, ((0, 2, 1),)))
        self.assertEqual(product(3, (1, ()), (0, ((1, 0, 2),))), (1, ((1, 0, 2),)))
        self.assertEqual(product(3, (4, ((1, 2, 0),)), (-3, ((1, 0, 2),))), (1, ((2, 0, 1), (1, 0, 2))))
        self.assertEqual(product(3, (4, ((1, 2, 0),)), (-3, ((0, 2, 1),))), (2, ()))
        self.assertEqual(product(3, (0, ((1, 2, 0),)), (0, ((1, 0, 2),))), (1, ()))

    def test_plain_form(self):
        for strands in range(2, 9):
            for word in some_words(strands):
                form = form_of(strands, word)
                self.assertEqual(product(strands, form, (0, ())), form)
                self.assertEqual(product(strands, (0, ()), form), form)

    def test_many_rows_and_turns(self):
        for strands in (3, 5, 8):
            dice = Dice(strands)
            long = (50, form_of(strands, tuple(abs(k) for k in dice.word(strands, 100)))[1])
            other = (-49, form_of(strands, tuple(abs(k) for k in dice.word(strands, 100)))[1])
            told = product(strands, long, other)
            self.assertTrue(form_told(strands, told))
            self.assertEqual(curve_told(strands, form_word(strands, told)),
                             curve_told(strands, form_word(strands, long) + form_word(strands, other)))

    def test_forms_stay(self):
        one, other = (0, ((1, 0, 2),)), (1, ((0, 2, 1),))
        product(3, one, other)
        undone_form(3, one)
        self.assertEqual((one, other), ((0, ((1, 0, 2),)), (1, ((0, 2, 1),))))


class UndoneFormTest(unittest.TestCase):

    def test_undone_words(self):
        for strands in range(2, 9):
            for word in some_words(strands):
                told = undone_form(strands, form_of(strands, word))
                self.assertEqual(told, form_of(strands, undone(word)))
                self.assertIs(type(told[1]), tuple)

    def test_examples(self):
        self.assertEqual(undone_form(3, (0, ())), (0, ()))
        self.assertEqual(undone_form(3, (5, ())), (-5, ()))
        self.assertEqual(undone_form(3, (0, ((1, 0, 2),))), (-1, ((1, 2, 0),)))
        self.assertEqual(undone_form(3, (1, ((1, 0, 2),))), (-2, ((2, 0, 1),)))

    def test_twice_and_behind_the_form(self):
        for strands in range(2, 9):
            for word in some_words(strands):
                form = form_of(strands, word)
                back = undone_form(strands, form)
                self.assertEqual(undone_form(strands, back), form)
                self.assertEqual(product(strands, form, back), (0, ()))
                self.assertEqual(product(strands, back, form), (0, ()))


class IsFormTest(unittest.TestCase):

    def test_no_rows(self):
        for strands in range(2, 9):
            for turns in (0, 1, -1, 50, -50, HUGE, -HUGE):
                self.assertIs(is_form(strands, (turns, ())), True)

    def test_normal_forms(self):
        self.assertIs(is_form(3, (-1, ((0, 2, 1), (2, 0, 1)))), True)
        for strands in range(2, 9):
            for word in some_words(strands):
                turns, rows = form_of(strands, word)
                for other in (turns, turns + 1, -turns, HUGE):
                    self.assertIs(is_form(strands, (other, rows)), True)

    def test_rows_that_may_not_stand_behind_one_another(self):
        self.assertIs(is_form(3, (0, ((1, 0, 2), (0, 2, 1)))), False)
        self.assertIs(is_form(3, (0, ((2, 0, 1), (0, 2, 1)))), False)
        self.assertIs(is_form(3, (0, ((0, 2, 1), (1, 2, 0)))), False)
        self.assertIs(is_form(4, (0, ((1, 0, 2, 3), (1, 0, 3, 2)))), False)
        self.assertIs(is_form(4, (0, ((1, 0, 3, 2), (1, 0, 2, 3)))), True)
        self.assertIs(is_form(4, (0, ((1, 0, 2, 3), (0, 1, 3, 2), (0, 1, 3, 2)))), False)
        self.assertIs(is_form(4, (0, ((1, 0, 2, 3), (1, 0, 2, 3), (0, 1, 3, 2)))), False)

    def test_all_pairs_of_rows(self):
        for strands in (3, 4):
            rows = list(permutations(range(strands)))
            for pair in tuples_of(rows, repeat=2):
                self.assertIs(is_form(strands, (0, pair)), form_told(strands, (0, pair)))

    def test_changed_forms(self):
        for strands in range(3, 9):
            dice = Dice(strands)
            _, rows = form_of(strands, dice.word(strands, 40))
            self.assertGreater(len(rows), 3)
            others = []
            for at in range(len(rows)):
                others.append(rows[:at] + rows[at + 1:])
                others.append(rows[:at] + (rows[at][::-1],) + rows[at + 1:])
                others.append(rows[:at] + rows[at:at + 2][::-1] + rows[at + 2:])
                others.append(rows[:at] + rows[at:at + 1] + rows[at:])
                for _ in range(3):
                    row = list(range(strands))
                    k = 1 + dice.below(strands - 1)
                    row[k - 1:k + 1] = row[k - 1:k + 1][::-1]
                    others.append(rows[:at] + (tuple(row),) + rows[at:])
                    others.append(rows[:at] + (tuple(row),) + rows[at + 1:])
            told = [form_told(strands, (0, other)) for other in others]
            self.assertEqual([is_form(strands, (0, other)) for other in others], told)
            self.assertIn(False, told)

    def test_plain_row_or_half_turn_among_the_rows(self):
        for strands in range(2, 9):
            plain = tuple(range(strands))
            for row in (plain, plain[::-1]):
                self.assertIs(is_form(strands, (0, (row,))), False)
                _, rows = form_of(strands, Dice(strands).word(strands, 30))
                for at in range(len(rows) + 1):
                    self.assertIs(is_form(strands, (0, rows[:at] + (row,) + rows[at:])), False)

    def test_no_rows_at_all(self):
        good = (1, 0, 2, 3)
        wrong = [(), (0,), (1, 0), (1, 0, 2), (1, 0, 2, 3, 4), (1, 0, 2, 2), (1, 1, 2, 3), (0, 0, 0, 0), (1, 0, 2, 4),
                 (4, 1, 2, 3), (-1, 0, 1, 2), (1, 0, 2, -1), (0, -2, 1, 3), (1, 0, 2, HUGE), (-HUGE, 0, 1, 2),
                 (1, 2, 3, 4), (4, 3, 2, 1)]
        for row in wrong:
            for rows in ((row,), (good, row), (row, good), (good, row, good), (row, row)):
                self.assertIs(is_form(4, (0, rows)), False, rows)
                self.assertIs(is_form(4, (-3, rows)), False, rows)

    def test_rows_of_another_number_of_strands(self):
        form = form_of(4, (1, 2, -3, 2, 2))
        self.assertIs(is_form(4, form), True)
        self.assertIs(is_form(3, form), False)
        self.assertIs(is_form(5, form), False)


if __name__ == "__main__":
    unittest.main()
