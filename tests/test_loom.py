"""Point 3 and the interface: looms, words under edits."""

import unittest

from strandsplaited.curves import curve_of
from strandsplaited.errors import NoPlait
from strandsplaited.forms import form_of
from strandsplaited.loom import Loom
from strandsplaited.ordering import compare
from strandsplaited.rows import row_of
from tests.samples import Dice, curve_told, half_turn_word, lean_of

HUGE = 10**25


def state(loom):
    """The word and all words that come back by undoing and by doing again, by a loom that is led there and back."""
    word = loom.word
    undone = drain(loom.undo)
    for _ in undone:
        loom.redo()
    redone = drain(loom.redo)
    for _ in redone:
        loom.undo()
    assert loom.word == word
    return word, undone, redone


def drain(deed):
    found = []
    while True:
        try:
            found.append(deed())
        except NoPlait:
            return found


class Model:
    """What a loom is to be, told by the list of all words and the place among them."""

    def __init__(self):
        self.words = [()]
        self.at = 0

    def change(self, word):
        self.words[self.at + 1:] = [word]
        self.at += 1

    def word(self):
        return self.words[self.at]

    def state(self):
        return self.word(), self.words[:self.at][::-1], self.words[self.at + 1:]


class PutTest(unittest.TestCase):

    def test_new_loom(self):
        for strands in range(2, 9):
            loom = Loom(strands)
            self.assertEqual(loom.word, ())
            self.assertEqual(state(loom), ((), [], []))
            self.assertEqual(loom.row(), tuple(range(strands)))
            self.assertEqual(loom.form(), (0, ()))
            self.assertEqual(loom.curve(), (0, 1) * strands)
            self.assertEqual(loom.sense(), 0)

    def test_word_is_a_property(self):
        self.assertIsInstance(vars(Loom)["word"], property)

    def test_first_last_and_behind(self):
        loom = Loom(4)
        self.assertEqual(loom.put(0, (1, 2)), 2)
        self.assertEqual(loom.word, (1, 2))
        self.assertEqual(loom.put(0, (3,)), 3)
        self.assertEqual(loom.word, (3, 1, 2))
        self.assertEqual(loom.put(2, (-1, -2)), 5)
        self.assertEqual(loom.word, (3, 1, -1, -2, 2))
        self.assertEqual(loom.put(5, (-3,)), 6)
        self.assertEqual(loom.word, (3, 1, -1, -2, 2, -3))
        self.assertIs(type(loom.word), tuple)

    def test_no_letters(self):
        loom = Loom(3)
        self.assertEqual(loom.put(0, ()), 0)
        self.assertEqual(loom.put(0, (1,)), 1)
        self.assertEqual(loom.put(1, ()), 1)
        # A put of no letters is a deed that stands, and can be taken back.
        self.assertEqual(state(loom), ((1,), [(1,), (), ()], []))
        loom.undo()
        loom.undo()
        loom.put(0, ())
        self.assertEqual(state(loom), ((), [(), ()], []))

    def test_places_that_are_none(self):
        loom = Loom(3)
        loom.put(0, (1, 2))
        loom.put(1, (-2,))
        loom.undo()
        before = state(loom)
        for place in (-1, -2, -3, 3, 4, HUGE, -HUGE):
            for letters in ((), (1,), (3,)):
                with self.assertRaises(NoPlait):
                    loom.put(place, letters)
                self.assertEqual(state(loom), before)

    def test_letters_that_are_no_word(self):
        for strands in range(2, 9):
            loom = Loom(strands)
            loom.put(0, (1, -1))
            loom.take(0, 1)
            loom.undo()
            before = state(loom)
            for letters in ((0,), (strands,), (-strands,), (1, 0), (1, strands), (HUGE,), (-HUGE, 1), (strands + 1,)):
                for place in (0, 1, 2):
                    with self.assertRaises(NoPlait):
                        loom.put(place, letters)
                    self.assertEqual(state(loom), before)
            self.assertEqual(loom.put(2, (strands - 1, 1 - strands)), 4)


class TakeTest(unittest.TestCase):

    def test_at_each_place(self):
        word = (1, -2, 3, 3, -1)
        for place in range(6):
            for many in range(6 - place):
                loom = Loom(4)
                loom.put(0, word)
                taken = loom.take(place, many)
                self.assertIs(type(taken), tuple)
                self.assertEqual(taken, word[place:place + many])
                self.assertEqual(loom.word, word[:place] + word[place + many:])
                self.assertEqual(state(loom), (loom.word, [word, ()], []))

    def test_none_and_all(self):
        loom = Loom(3)
        self.assertEqual(loom.take(0, 0), ())
        loom.put(0, (1, 2))
        self.assertEqual(loom.take(2, 0), ())
        self.assertEqual(loom.take(0, 2), (1, 2))
        self.assertEqual(loom.word, ())
        self.assertEqual(state(loom), ((), [(1, 2), (1, 2), (), ()], []))

    def test_letters_that_are_not_there(self):
        for strands in range(2, 9):
            loom = Loom(strands)
            loom.put(0, (1, -1, 1))
            loom.put(3, (1,))
            loom.undo()
            before = state(loom)
            for place, many in ((0, 4), (1, 3), (3, 1), (4, 0), (-1, 0), (-1, 1), (-1, 2), (-3, 1), (0, -1), (1, -1),
                                (2, -2), (3, -3), (4, -1), (0, HUGE), (HUGE, 0), (HUGE, -HUGE), (-HUGE, HUGE),
                                (0, -HUGE), (-HUGE, 0)):
                with self.assertRaises(NoPlait):
                    loom.take(place, many)
                self.assertEqual(state(loom), before)


class UndoTest(unittest.TestCase):

    def test_back_and_again(self):
        loom = Loom(3)
        loom.put(0, (1, 2))
        loom.take(0, 1)
        loom.put(1, (-1,))
        self.assertEqual([loom.undo(), loom.undo(), loom.redo(), loom.redo()], [(2,), (1, 2), (2,), (2, -1)])
        self.assertEqual([loom.undo(), loom.undo(), loom.undo()], [(2,), (1, 2), ()])
        self.assertEqual([loom.redo(), loom.redo(), loom.redo()], [(1, 2), (2,), (2, -1)])
        self.assertEqual(loom.word, (2, -1))

    def test_nothing_to_take_back_or_to_do_again(self):
        loom = Loom(3)
        for deed in (loom.undo, loom.redo):
            with self.assertRaises(NoPlait):
                deed()
        self.assertEqual(loom.word, ())
        loom.put(0, (1,))
        with self.assertRaises(NoPlait):
            loom.redo()
        self.assertEqual(loom.undo(), ())
        with self.assertRaises(NoPlait):
            loom.undo()
        self.assertEqual(loom.redo(), (1,))
        with self.assertRaises(NoPlait):
            loom.redo()
        self.assertEqual(state(loom), ((1,), [()], []))

    def test_new_deeds_forget(self):
        for deed in (lambda loom: loom.put(1, (2,)), lambda loom: loom.take(0, 1), lambda loom: loom.put(0, ()),
                     lambda loom: loom.take(1, 0)):
            loom = Loom(3)
            loom.put(0, (1,))
            loom.put(0, (-2,))
            loom.put(0, (2,))
            loom.undo()
            loom.undo()
            deed(loom)
            with self.assertRaises(NoPlait):
                loom.redo()
            self.assertEqual(state(loom)[1:], ([(1,), ()], []))

    def test_refused_deeds_do_not_forget(self):
        loom = Loom(3)
        loom.put(0, (1,))
        loom.undo()
        for deed in (lambda: loom.put(1, (1,)), lambda: loom.put(0, (3,)), lambda: loom.take(0, 1), loom.undo):
            with self.assertRaises(NoPlait):
                deed()
        self.assertEqual(loom.redo(), (1,))


class AskingTest(unittest.TestCase):

    def check(self, strands, loom, word):
        self.assertEqual(loom.word, word)
        self.assertEqual(loom.row(), row_of(strands, word))
        self.assertEqual(loom.form(), form_of(strands, word))
        self.assertEqual(loom.curve(), curve_told(strands, word))
        self.assertEqual(loom.curve(), curve_of(strands, word))
        self.assertEqual(loom.sense(), lean_of(strands, word))
        self.assertEqual(loom.sense(), compare(strands, word, ()))
        self.assertEqual(loom.word, word)

    def test_drawn_deeds_on_two_looms_side_by_side(self):
        for strands in range(2, 9):
            dice = Dice(strands)
            pairs = [(Loom(strands), Model()), (Loom(strands), Model())]
            for step in range(150):
                loom, model = pairs[dice.below(2)]
                kind = dice.below(5)
                word = model.word()
                if kind == 0:
                    place, letters = dice.below(len(word) + 1), dice.word(strands, dice.below(5))
                    model.change(word[:place] + letters + word[place:])
                    self.assertEqual(loom.put(place, letters), len(word) + len(letters))
                elif kind == 1:
                    place = dice.below(len(word) + 1)
                    many = dice.below(min(4, len(word) - place) + 1)
                    model.change(word[:place] + word[place + many:])
                    self.assertEqual(loom.take(place, many), word[place:place + many])
                else:
                    further = kind == 2
                    at = model.at + (1 if further else -1)
                    deed = loom.redo if further else loom.undo
                    if 0 <= at < len(model.words):
                        model.at = at
                        self.assertEqual(deed(), model.word())
                    else:
                        with self.assertRaises(NoPlait):
                            deed()
                for some, told in pairs:
                    self.assertEqual(some.word, told.word())
                if step % 10 == 0:
                    self.assertEqual(state(loom), model.state())
                    self.check(strands, loom, model.word())

    def test_long_word(self):
        for strands in range(2, 9):
            loom = Loom(strands)
            word = Dice(strands).word(strands, 500)
            self.assertEqual(loom.put(0, word), 500)
            self.check(strands, loom, word)
            self.assertEqual(loom.take(100, 300), word[100:400])
            self.check(strands, loom, word[:100] + word[400:])
            self.assertEqual(loom.undo(), word)

    def test_sense_is_that_of_the_plait(self):
        loom = Loom(3)
        for letters, told in (((1, 2, -1), 1), ((1, -2, -1), -1), ((1, -1), 0), ((1, 2, 1, -2, -1, -2), 0),
                              (half_turn_word(3), 1), ((-1, 2, 2, 2), -1)):
            loom.put(0, letters)
            self.assertEqual(loom.sense(), told)
            loom.undo()
            self.assertEqual(loom.sense(), 0)


if __name__ == "__main__":
    unittest.main()
