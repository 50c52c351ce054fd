"""What holds over the whole program: what stays the same, and that the several answers agree with one another."""

import unittest

from strandsplaited.closing import colourings, linked, pieces, polynomial
from strandsplaited.conjugating import conjugate
from strandsplaited.curves import curve_of, lean
from strandsplaited.forms import form_of, form_word
from strandsplaited.judging import accepts, judge
from strandsplaited.loom import Loom
from strandsplaited.moves import leads, made
from strandsplaited.ordering import compare, floor
from strandsplaited.reducing import reduced
from strandsplaited.rows import row_of
from strandsplaited.strings import strings_of, word_of_strings
from strandsplaited.words import is_word, total, undone
from tests.samples import Dice, changed_by_moves, half_turn_word


def told_of(strands, word):
    """All that a move is to leave as it is."""
    found = [row_of(strands, word), total(word), form_of(strands, word), curve_of(strands, word),
             strings_of(strands, word), floor(strands, word), compare(strands, word, ()),
             compare(strands, (1,) * 3, word), pieces(strands, word), linked(strands, word)]
    found += [colourings(strands, word, colours) for colours in (1, 2, 3, 4, 15, 1000)]
    if strands <= 6:
        found.append(polynomial(strands, word))
    return found


class WholeTest(unittest.TestCase):

    def test_moves_change_nothing(self):
        for strands in range(2, 9):
            dice = Dice(strands)
            for length in (0, 5, 12):
                word = dice.word(strands, length)
                told = told_of(strands, word)
                moves, last = changed_by_moves(dice, strands, word, 12)
                for move in moves:
                    word = made(strands, word, move)
                    self.assertEqual(told_of(strands, word), told)
                self.assertEqual(word, last)

    def test_alike_by_each_answer(self):
        for strands in range(2, 9):
            dice = Dice(20 + strands)
            words = [dice.word(strands, 6) for _ in range(4)]
            words += [changed_by_moves(dice, strands, word, 10)[1] for word in words] + [(), (1, -1)]
            for one in words:
                for other in words:
                    alike = judge(strands, one, other)[0] == "alike"
                    self.assertEqual(form_of(strands, one) == form_of(strands, other), alike)
                    self.assertEqual(curve_of(strands, one) == curve_of(strands, other), alike)
                    self.assertEqual(strings_of(strands, one) == strings_of(strands, other), alike)
                    self.assertEqual(compare(strands, one, other) == 0, alike)
                    if alike:
                        self.assertEqual(floor(strands, one), floor(strands, other))

    def test_letters_put_in(self):
        for strands in range(2, 9):
            loom = Loom(strands)
            dice = Dice(40 + strands)
            loom.put(0, dice.word(strands, 30))
            for _ in range(20):
                before = loom.word
                letter = dice.letter(strands)
                loom.put(dice.below(31), (letter,))
                told = 1 if letter > 0 else -1
                self.assertEqual(compare(strands, loom.word, before), told)
                self.assertEqual(judge(strands, loom.word, before)[0], "more" if told > 0 else "less")
                self.assertEqual(lean(curve_of(strands, undone(before) + loom.word)), told)
                loom.undo()
                self.assertEqual(loom.word, before)

    def test_whole_turns_may_be_moved(self):
        for strands in range(2, 9):
            turn = half_turn_word(strands) * 2
            dice = Dice(60 + strands)
            word = dice.word(strands, 20)
            first = turn + word
            for at in (0, 7, 20):
                other = word[:at] + turn + word[at:]
                self.assertEqual(form_of(strands, other), form_of(strands, first))
                self.assertEqual(curve_of(strands, other), curve_of(strands, first))
                self.assertEqual(judge(strands, first, other)[0], "alike")
                self.assertEqual(floor(strands, other), floor(strands, word) + 1)
                self.assertEqual(form_of(strands, other)[0], form_of(strands, word)[0] + 2)

    def test_words_that_were_returned_may_be_passed(self):
        for strands in range(2, 9):
            dice = Dice(80 + strands)
            word = dice.word(strands, 20)
            other = word_of_strings(strands, strings_of(strands, word))
            found = [(other, word), (reduced(strands, word)[1], word)]
            if strands <= 4:
                by = conjugate(strands, word, (1,) + word + (-1,))
                found.append((by + (1,), form_word(strands, form_of(strands, by + (1,)))))
                self.assertEqual(form_of(strands, (-1,) + undone(by) + word + by + (1,)), form_of(strands, word))
            for one, alike in found:
                self.assertTrue(is_word(strands, one))
                self.assertEqual(compare(strands, one, alike), 0)
                self.assertEqual(form_of(strands, one), form_of(strands, alike))
                paper = judge(strands, one, alike)
                self.assertEqual(paper[0], "alike")
                self.assertTrue(accepts(strands, one, alike, paper))
                moves, last = reduced(strands, one)
                self.assertTrue(leads(strands, one, moves, last))


if __name__ == "__main__":
    unittest.main()
