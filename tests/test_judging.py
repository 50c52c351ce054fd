"""Point 11: papers that tell which of two words is less, or that they are alike."""

import unittest
from itertools import product

from strandsplaited.judging import accepts, judge
from strandsplaited.moves import leads
from strandsplaited.reducing import reduced
from strandsplaited.words import undone
from tests.samples import Dice, changed_by_moves, half_turn_word, kinds_of, lean_of, letters_of

STRINGS = ("alike", "less", "more")
HUGE = 10**25


def accepted(strands, one, other, paper):
    """Tells whether the paper is accepted, by the words of points 5, 7 and 11."""
    told, moves = paper
    kinds = kinds_of(strands)
    word = one if told == "alike" else undone(one) + other
    for place, old, new in moves:
        if (old, new) not in kinds or place < 0 or place > len(word) or word[place:place + len(old)] != old:
            return False
        word = word[:place] + new + word[place + len(old):]
    if told == "alike":
        return word == other
    signs = {k > 0 for k in word if abs(k) == min(map(abs, word))}
    return signs == {told == "less"}


class JudgeTest(unittest.TestCase):

    def check(self, strands, one, other):
        paper = judge(strands, one, other)
        self.assertIs(type(paper), tuple)
        told, moves = paper
        self.assertIs(type(moves), list)
        lean = lean_of(strands, undone(one) + other)
        self.assertEqual(told, "less" if lean > 0 else "more" if lean < 0 else "alike")
        self.assertTrue(accepted(strands, one, other, paper))
        before = list(moves)
        self.assertIs(accepts(strands, one, other, paper), True)
        self.assertEqual(moves, before)
        for string in STRINGS:
            if string != told:
                self.assertIs(accepts(strands, one, other, (string, moves)), False)
        return told

    def test_empty_words(self):
        for strands in range(2, 9):
            self.assertEqual(self.check(strands, (), ()), "alike")
            self.assertEqual(self.check(strands, (), (1,)), "less")
            self.assertEqual(self.check(strands, (), (-1,)), "more")
            self.assertEqual(self.check(strands, (strands - 1,), ()), "more")
            self.assertEqual(self.check(strands, (1 - strands,), ()), "less")
            self.assertEqual(self.check(strands, (), (1, -1)), "alike")
            self.assertEqual(self.check(strands, (-1, 1), ()), "alike")

    def test_small_words(self):
        self.assertEqual(self.check(3, (1,), (2,)), "more")
        self.assertEqual(self.check(3, (2,), (1,)), "less")
        self.assertEqual(self.check(3, (1, 2, 1), (2, 1, 2)), "alike")
        self.assertEqual(self.check(4, (1, -3), (-3, 1)), "alike")
        self.assertEqual(self.check(3, (-1, -2), (-2, -1)), "more")

    def test_all_short_words(self):
        words = [word for length in range(4) for word in product(letters_of(3), repeat=length)]
        for one in words[::2]:
            for other in words[::3]:
                self.check(3, one, other)

    def test_word_and_itself(self):
        for strands in range(2, 9):
            for length in (1, 10, 60):
                word = Dice(strands).word(strands, length)
                self.assertEqual(self.check(strands, word, word), "alike")

    def test_alike_words(self):
        for strands in range(2, 9):
            dice = Dice(20 + strands)
            for _ in range(5):
                word = dice.word(strands, 20)
                _, other = changed_by_moves(dice, strands, word, 60)
                self.assertEqual(self.check(strands, word, other), "alike")
                self.assertEqual(self.check(strands, other, word), "alike")
                self.assertEqual(self.check(strands, word, other + (1,)), "less")
                self.assertEqual(self.check(strands, word, (1 - strands,) + other), "more")

    def test_whole_turns(self):
        for strands in range(2, 9):
            turn = half_turn_word(strands) * 2
            word = Dice(strands).word(strands, 30)
            self.assertEqual(self.check(strands, turn + word, word + turn), "alike")
            self.assertEqual(self.check(strands, word, turn + word), "less")
            self.assertEqual(self.check(strands, word, word + undone(turn)), "more")

    def test_words_both_ways(self):
        for strands in range(2, 9):
            dice = Dice(40 + strands)
            for length in (3, 10, 40, 120):
                one, other = dice.word(strands, length), dice.word(strands, length)
                self.check(strands, one, other)
                self.check(strands, other, one)

    def test_long_words(self):
        for strands in (3, 5, 8):
            dice = Dice(60 + strands)
            one, other = dice.word(strands, 500), dice.word(strands, 500)
            for word in (other, one, reduced(strands, one)[1], one[:250] + (1,) + one[250:]):
                paper = judge(strands, one, word)
                lean = lean_of(strands, undone(one) + word)
                self.assertEqual(paper[0], ("alike", "less", "more")[lean])
                self.assertIs(accepts(strands, one, word, paper), True)

    def test_words_that_take_many_moves(self):
        one = tuple(abs(k) for k in Dice(1).word(6, 500))
        other = tuple(abs(k) for k in Dice(2).word(6, 500))
        paper = judge(6, one, other)
        self.assertEqual(paper[0], ("alike", "less", "more")[lean_of(6, undone(one) + other)])
        self.assertIs(accepts(6, one, other, paper), True)

    def test_each_paper_is_the_caller_s_own(self):
        for other in ((1, -1), (2,), (-2, 1)):
            _, moves = judge(3, (), other)
            moves.append("changed")
            self.assertNotIn("changed", judge(3, (), other)[1])


class AcceptsTest(unittest.TestCase):

    def test_empty_list_of_moves(self):
        self.assertIs(accepts(3, (1, 2), (1, 2), ("alike", [])), True)
        self.assertIs(accepts(3, (), (), ("alike", [])), True)
        self.assertIs(accepts(3, (1, 2, 1), (2, 1, 2), ("alike", [])), False)
        self.assertIs(accepts(3, (), (), ("less", [])), False)
        self.assertIs(accepts(3, (), (), ("more", [])), False)
        self.assertIs(accepts(3, (2,), (1,), ("less", [])), True)
        self.assertIs(accepts(3, (2,), (1,), ("more", [])), False)
        self.assertIs(accepts(3, (-1,), (2,), ("less", [])), True)
        self.assertIs(accepts(3, (1,), (2,), ("more", [])), True)
        self.assertIs(accepts(3, (1,), (2,), ("less", [])), False)
        self.assertIs(accepts(3, (), (2, 1, -2), ("less", [])), True)
        self.assertIs(accepts(3, (), (2, -1, -2), ("more", [])), True)
        self.assertIs(accepts(3, (), (1, 2, -1), ("less", [])), False)
        self.assertIs(accepts(3, (1,), (1,), ("less", [])), False)

    def test_alike_leads_the_first_word_to_the_second(self):
        moves = [(0, (1, 2, 1), (2, 1, 2))]
        self.assertIs(accepts(3, (1, 2, 1), (2, 1, 2), ("alike", moves)), True)
        self.assertIs(accepts(3, (2, 1, 2), (1, 2, 1), ("alike", moves)), False)
        # The undone first word with the second one behind it is another word.
        moves = [(0, (1, -1), ())]
        self.assertIs(accepts(3, (-1,), (-1,), ("alike", moves)), False)
        self.assertIs(accepts(3, (1, -1), (), ("alike", moves)), True)

    def test_less_and_more_lead_the_undone_first_word(self):
        moves = [(0, (-1, 1), ())]
        self.assertIs(accepts(3, (1,), (1, 2), ("less", moves)), True)
        self.assertIs(accepts(3, (1,), (1, -2), ("more", moves)), True)
        self.assertIs(accepts(3, (1,), (1, -2), ("less", moves)), False)
        self.assertIs(accepts(3, (1,), (1, 2), ("more", moves)), False)
        self.assertIs(accepts(3, (1,), (1, 2), ("alike", moves)), False)
        self.assertIs(accepts(3, (1, 2), (1,), ("less", moves)), False)
        self.assertIs(accepts(3, (-1, 1), (-1, 1, 2), ("less", [(0, (-1, 1), ())] * 2)), True)

    def test_last_word_without_a_sense(self):
        self.assertIs(accepts(3, (1,), (2, 1), ("less", [])), False)
        self.assertIs(accepts(3, (1,), (2, 1), ("more", [])), False)
        self.assertIs(accepts(3, (-1,), (2,), ("less", [(2, (), (-1, 1))])), False)
        self.assertIs(accepts(3, (-1,), (2,), ("less", [(2, (), (-2, 2))])), True)

    def test_moves_that_are_none_or_cannot_be_made(self):
        wrong = [(0, (), ()), (0, (1,), (1,)), (0, (), (1, 1)), (0, (), (0, 0)), (0, (), (3, -3)), (0, (1, 2), (2, 1)),
                 (-1, (), (1, -1)), (5, (), (2, -2)), (HUGE, (), (2, -2)), (-HUGE, (), (2, -2)), (0, (2, -2), ()),
                 (0, (), (HUGE, -HUGE)), (0, (1, 2, 1), (2, 1, 2)), (0, (1, -2, 1), (-2, 1, -2)), (-2, (1, 2), ())]
        for move in wrong:
            self.assertIs(accepts(3, (-1,), (2,), ("less", [move])), False, move)
            self.assertIs(accepts(3, (1,), (2,), ("more", [move])), False, move)
            self.assertIs(accepts(3, (1, 2), (1, 2), ("alike", [move])), False, move)
            self.assertIs(accepts(3, (-1,), (2,), ("less", [(2, (), (2, -2)), move])), False, move)

    def test_changed_papers(self):
        for strands in (3, 4, 8):
            dice = Dice(strands)
            one = dice.word(strands, 8)
            _, alike = changed_by_moves(dice, strands, one, 20)
            for other in (alike, alike + (1,), (1 - strands,) + alike, dice.word(strands, 8)):
                told, moves = judge(strands, one, other)
                for changed in self.changed_lists(dice, strands, moves):
                    before = list(changed)
                    for string in STRINGS:
                        paper = (string, changed)
                        self.assertIs(accepts(strands, one, other, paper), accepted(strands, one, other, paper))
                    self.assertEqual(changed, before)

    def changed_lists(self, dice, strands, moves):
        """The list with a move changed, left out, doubled, put in, at several places; and the empty list."""
        kinds = sorted(kinds_of(strands))
        lists = [[], moves[::-1], [(place, new, old) for place, old, new in moves[::-1]]]
        for at in range(0, len(moves), 1 + len(moves) // 20):
            place, old, new = moves[at]
            lists.append(moves[:at] + moves[at + 1:])
            lists.append(moves[:at] + [moves[at]] + moves[at:])
            lists.append(moves[:at] + [(dice.below(20) - 2, *kinds[dice.below(len(kinds))])] + moves[at:])
            for move in ((place + 1, old, new), (place - 1, old, new), (place, new, old), (place, old, old),
                         (place, old, new[::-1]), (place, old[::-1], new), (place, old, new + (1,)),
                         (HUGE, old, new), (place, (), new), (place, old, (9, -9))):
                lists.append(moves[:at] + [move] + moves[at + 1:])
        return lists

    def test_moves_left_out_are_refused(self):
        one, other = (1, 2, 1, -2, 1), (2, 1, 1, 1, -1)
        told, moves = judge(3, one, other)
        self.assertEqual(told, "alike")
        self.assertIs(leads(3, one, moves, other), True)
        for at in range(len(moves)):
            self.assertIs(accepts(3, one, other, (told, moves[:at])), accepted(3, one, other, (told, moves[:at])))
            self.assertIs(accepts(3, one, other, (told, moves[:at] + moves[at + 1:])), False)

    def test_words_the_other_way_round(self):
        for strands in (2, 3, 5, 8):
            dice = Dice(70 + strands)
            for _ in range(10):
                one, other = dice.word(strands, 10), dice.word(strands, 10)
                paper = judge(strands, one, other)
                if paper[0] != "alike":
                    self.assertIs(accepts(strands, other, one, paper), False)

    def test_papers_of_other_words(self):
        for strands in (2, 3, 5, 8):
            dice = Dice(90 + strands)
            words = [dice.word(strands, 6) for _ in range(8)]
            papers = [judge(strands, one, other) for one, other in zip(words, words[1:])]
            for one, other in product(words, repeat=2):
                for paper in papers:
                    self.assertIs(accepts(strands, one, other, paper), accepted(strands, one, other, paper))

    def test_never_two_strings_for_two_words(self):
        words = [word for length in range(3) for word in product(letters_of(3), repeat=length)]
        for one, other in product(words, repeat=2):
            told, moves = judge(3, one, other)
            for string in STRINGS:
                for some in (moves, moves[1:], moves[:-1], []):
                    if accepts(3, one, other, (string, some)):
                        self.assertEqual(string, told)


if __name__ == "__main__":
    unittest.main()
