"""Points 5 and 6: moves, and lists of moves that lead a word to another one."""

import unittest
from itertools import product

from strandsplaited.errors import BadMove
from strandsplaited.moves import is_move, leads, made
from tests.samples import Dice, kinds_of, letters_of

HUGE = 10**25


class IsMoveTest(unittest.TestCase):

    def test_pairs(self):
        for a in letters_of(8):
            self.assertIs(is_move(8, (0, (), (a, -a))), True)
            self.assertIs(is_move(8, (3, (a, -a), ())), True)

    def test_exchanges(self):
        for a, b in ((1, 3), (1, -3), (-1, 3), (-1, -3), (1, 7), (-2, 6), (4, -7)):
            self.assertIs(is_move(8, (0, (a, b), (b, a))), True)
            self.assertIs(is_move(8, (5, (b, a), (a, b))), True)

    def test_turns(self):
        for a, b in ((1, 2), (2, 3), (6, 7), (-1, -2), (-3, -2), (-7, -6)):
            self.assertIs(is_move(8, (0, (a, b, a), (b, a, b))), True)
            self.assertIs(is_move(8, (2, (b, a, b), (a, b, a))), True)

    def test_only_these_pairs_of_short_words(self):
        for strands in (2, 3, 4):
            letters = letters_of(strands)
            short = [word for length in (0, 1, 2) for word in product(letters, repeat=length)]
            long = list(product(letters, repeat=3))
            kinds = kinds_of(strands)
            for old, new in list(product(short, short)) + list(product(long, long)):
                self.assertIs(is_move(strands, (0, old, new)), (old, new) in kinds, (old, new))
            for old, new in product(long, short):
                self.assertIs(is_move(strands, (0, old, new)), False)
                self.assertIs(is_move(strands, (0, new, old)), False)

    def test_all_exchanges_and_turns_of_eight_strands(self):
        kinds = kinds_of(8)
        for a, b in product(letters_of(8), repeat=2):
            for old, new in (((a, b), (b, a)), ((a, b, a), (b, a, b)), ((a, b), ()), ((), (a, b))):
                self.assertIs(is_move(8, (0, old, new)), (old, new) in kinds, (old, new))

    def test_no_letters_of_so_many_strands(self):
        self.assertIs(is_move(3, (0, (), (2, -2))), True)
        for wrong in (0, 3, -3, 4, HUGE, -HUGE):
            self.assertIs(is_move(3, (0, (), (wrong, -wrong))), False)
            self.assertIs(is_move(3, (0, (wrong, -wrong), ())), False)
            self.assertIs(is_move(3, (0, (1, wrong), (wrong, 1))), False)
            self.assertIs(is_move(3, (0, (wrong, -1), (-1, wrong))), False)
        for strands in (2, 3, 7):
            a, b = strands, strands - 1
            self.assertIs(is_move(strands, (0, (a, b, a), (b, a, b))), False)
            self.assertIs(is_move(strands, (0, (-b, -a, -b), (-a, -b, -a))), False)
            self.assertIs(is_move(strands + 1, (0, (-b, -a, -b), (-a, -b, -a))), True)
        self.assertIs(is_move(8, (0, (0, 1, 0), (1, 0, 1))), False)
        self.assertIs(is_move(8, (0, (HUGE, HUGE + 1, HUGE), (HUGE + 1, HUGE, HUGE + 1))), False)

    def test_nearly_pairs(self):
        for pair in ((1, 1), (-1, -1), (1, -2), (2, -1), (1,), (1, -1, 1), (1, -1, 1, -1), (1, 2, -2, -1)):
            self.assertIs(is_move(8, (0, (), pair)), False)
            self.assertIs(is_move(8, (0, pair, ())), False)
        self.assertIs(is_move(8, (0, (1, -1), (2, -2))), False)
        self.assertIs(is_move(8, (0, (1, -1), (1, -1))), False)
        self.assertIs(is_move(8, (0, (1,), (-1,))), False)
        self.assertIs(is_move(8, (0, (1, 2, -2), (1,))), False)

    def test_empty_on_both_sides(self):
        self.assertIs(is_move(2, (0, (), ())), False)
        self.assertIs(is_move(8, (0, (), ())), False)

    def test_nearly_exchanges(self):
        for a, b in ((1, 2), (1, -2), (-2, 3), (3, 3), (3, -3), (-4, -4)):
            self.assertIs(is_move(8, (0, (a, b), (b, a))), False)
            self.assertIs(is_move(8, (0, (b, a), (a, b))), False)
        for new in ((1, 3), (-3, -1), (3, -1), (3,), (3, 1, 1), (1,), (3, 4)):
            self.assertIs(is_move(8, (0, (1, 3), new)), False)

    def test_nearly_turns(self):
        for a, b in ((1, -2), (-2, 1), (1, 1), (1, -1), (1, 3), (-1, -4), (2, 7), (-1, 1)):
            self.assertIs(is_move(8, (0, (a, b, a), (b, a, b))), False)
        for new in ((1, 2, 1), (2, 1, 1), (2, 2, 1), (1, 1, 2), (-2, -1, -2), (2, 1), (2, 1, 2, 1), (2, 3, 2)):
            self.assertIs(is_move(8, (0, (1, 2, 1), new)), False)
        self.assertIs(is_move(8, (0, (1, 2, 3), (3, 2, 1))), False)
        self.assertIs(is_move(8, (0, (1, 2, -1), (-2, 1, 2))), False)
        self.assertIs(is_move(8, (0, (1, 3, 1), (3, 1, 1))), False)

    def test_place_alone_makes_no_difference(self):
        for place in (-1, -HUGE, HUGE, 7):
            self.assertIs(is_move(4, (place, (), (1, -1))), True)
            self.assertIs(is_move(4, (place, (1, 3), (3, 1))), True)
            self.assertIs(is_move(4, (place, (1, 2, 1), (2, 1, 2))), True)
            self.assertIs(is_move(4, (place, (1, 2), (2, 1))), False)


class MadeTest(unittest.TestCase):

    def test_pair_put_in(self):
        self.assertEqual(made(2, (), (0, (), (1, -1))), (1, -1))
        self.assertEqual(made(4, (2, 3), (0, (), (-1, 1))), (-1, 1, 2, 3))
        self.assertEqual(made(4, (2, 3), (1, (), (-1, 1))), (2, -1, 1, 3))
        self.assertEqual(made(4, (2, 3), (2, (), (-1, 1))), (2, 3, -1, 1))

    def test_pair_taken_out(self):
        self.assertEqual(made(2, (1, -1), (0, (1, -1), ())), ())
        self.assertEqual(made(4, (-3, 3, 2), (0, (-3, 3), ())), (2,))
        self.assertEqual(made(4, (2, -3, 3), (1, (-3, 3), ())), (2,))

    def test_exchange(self):
        self.assertEqual(made(4, (1, -3, 2), (0, (1, -3), (-3, 1))), (-3, 1, 2))
        self.assertEqual(made(4, (2, 3, 1), (1, (3, 1), (1, 3))), (2, 1, 3))

    def test_turn(self):
        self.assertEqual(made(3, (1, 2, 1, 1), (0, (1, 2, 1), (2, 1, 2))), (2, 1, 2, 1))
        self.assertEqual(made(3, (1, -2, -1, -2), (1, (-2, -1, -2), (-1, -2, -1))), (1, -1, -2, -1))

    def test_place_outside(self):
        for place in (-1, -2, -HUGE, 3, 4, HUGE):
            with self.assertRaises(BadMove):
                made(4, (1, 3), (place, (), (2, -2)))
        for place in (-2, -1, 1, 2, HUGE):
            with self.assertRaises(BadMove):
                made(4, (1, 3), (place, (1, 3), (3, 1)))
        for place in (-3, 1, 3):
            with self.assertRaises(BadMove):
                made(4, (1, 2, 1), (place, (1, 2, 1), (2, 1, 2)))

    def test_negative_place_does_not_count_from_the_end(self):
        with self.assertRaises(BadMove):
            made(4, (2, 1, 3), (-2, (1, 3), (3, 1)))
        with self.assertRaises(BadMove):
            made(4, (2, 1, -1), (-2, (1, -1), ()))

    def test_other_letters_there(self):
        for word in ((1, -3), (-1, 3), (3, 1), (1, 2), (1, 1, 3), (1,), ()):
            with self.assertRaises(BadMove):
                made(4, word, (0, (1, 3), (3, 1)))
        for word in ((1, 2, 2), (1, 2, -1), (2, 1, 2), (1, 2)):
            with self.assertRaises(BadMove):
                made(4, word, (0, (1, 2, 1), (2, 1, 2)))
        for word in ((-1, 1), (1, 1), (1,), ()):
            with self.assertRaises(BadMove):
                made(4, word, (0, (1, -1), ()))

    def test_empty_word(self):
        self.assertEqual(made(3, (), (0, (), (-2, 2))), (-2, 2))
        for move in ((1, (), (1, -1)), (-1, (), (1, -1)), (0, (1, -1), ()), (0, (), ()), (0, (), (3, -3))):
            with self.assertRaises(BadMove):
                made(3, (), move)

    def test_no_move(self):
        for old, new in (((1, 2), (2, 1)), ((1, -2, 1), (-2, 1, -2)), ((1, 2, 1), (1, 2, 1)), ((), ()),
                         ((1,), (1,)), ((), (4, -4)), ((), (0, 0)), ((1, 2), ()), ((1, 3), (3,))):
            with self.assertRaises(BadMove):
                made(4, old, (0, old, new))

    def test_no_move_with_huge_letters(self):
        with self.assertRaises(BadMove):
            made(4, (1,), (0, (), (10**5000, -10**5000)))
        with self.assertRaises(BadMove):
            made(4, (1,), (10**5000, (), (1, -1)))

    def test_bad_move_exactly_where_it_must_be(self):
        dice = Dice(5)
        kinds = sorted(kinds_of(4))
        done = 0
        for _ in range(6000):
            word = dice.word(4, dice.below(6))
            old, new = kinds[dice.below(len(kinds))]
            place = dice.below(9) - 2
            fits = place >= 0 and place <= len(word) and word[place:][:len(old)] == old
            if fits:
                done += 1
                self.assertEqual(made(4, word, (place, old, new)), word[:place] + new + word[place + len(old):])
            else:
                with self.assertRaises(BadMove):
                    made(4, word, (place, old, new))
        self.assertGreater(done, 200)

    def test_word_stays(self):
        word = (1, 3, 2)
        self.assertEqual(made(4, word, (0, (1, 3), (3, 1))), (3, 1, 2))
        self.assertEqual(word, (1, 3, 2))


class LeadsTest(unittest.TestCase):

    ONE = (1, 2, 1, -2)
    MOVES = [(0, (1, 2, 1), (2, 1, 2)), (2, (2, -2), ()), (2, (), (3, -3)), (1, (1, 3), (3, 1))]
    OTHER = (2, 3, 1, -3)

    def test_empty_list(self):
        for word in ((), (1,), (1, -1), (2, 1, 2)):
            self.assertIs(leads(3, word, [], word), True)
        self.assertIs(leads(3, (1,), [], ()), False)
        self.assertIs(leads(3, (), [], (1,)), False)
        self.assertIs(leads(3, (1, -1), [], ()), False)
        self.assertIs(leads(3, (1, 2, 1), [], (2, 1, 2)), False)

    def test_list_that_leads_there(self):
        self.assertIs(leads(4, self.ONE, self.MOVES, self.OTHER), True)
        self.assertIs(leads(8, self.ONE, self.MOVES, self.OTHER), True)
        self.assertIs(leads(4, self.ONE, self.MOVES[:2], (2, 1)), True)

    def test_back_again(self):
        back = [(place, new, old) for place, old, new in self.MOVES[::-1]]
        self.assertIs(leads(4, self.OTHER, back, self.ONE), True)
        self.assertIs(leads(4, self.ONE, self.MOVES + back, self.ONE), True)

    def test_other_last_word(self):
        for other in ((), self.ONE, (2, 3, 1), (2, 3, 1, 3), (2, 3, 1, -3, 1), (3, 2, 1, -3), (2, 1, 3, -3)):
            self.assertIs(leads(4, self.ONE, self.MOVES, other), False)

    def test_alike_words_without_the_moves(self):
        self.assertIs(leads(4, self.ONE, [], (2, 1)), False)
        self.assertIs(leads(4, self.ONE, self.MOVES[:1], (2, 1)), False)

    def test_move_left_out(self):
        for place in range(len(self.MOVES)):
            moves = self.MOVES[:place] + self.MOVES[place + 1:]
            self.assertIs(leads(4, self.ONE, moves, self.OTHER), False)

    def test_move_doubled(self):
        for place in range(len(self.MOVES)):
            moves = self.MOVES[:place + 1] + self.MOVES[place:]
            self.assertIs(leads(4, self.ONE, moves, self.OTHER), False)

    def test_move_put_in(self):
        wrong = [(0, (), ()), (0, (), (1, -1)), (0, (1, 2), (2, 1)), (0, (9, -9), ()), (0, (), (4, -4)),
                 (-1, (), (1, -1)), (HUGE, (), (1, -1)), (0, (1,), (1,)), (0, (0,), (0,))]
        for move in wrong:
            for place in range(len(self.MOVES) + 1):
                moves = self.MOVES[:place] + [move] + self.MOVES[place:]
                self.assertIs(leads(4, self.ONE, moves, self.OTHER), False)

    def test_move_changed(self):
        for at, (place, old, new) in enumerate(self.MOVES):
            for move in ((place + 1, old, new), (place - 1, old, new), (place, new, old), (place, old, old),
                         (place, new, new), (place, old, new + (1,)), (place, old + (1,), new),
                         (place, old, tuple(-k for k in new)), (HUGE, old, new), (-HUGE, old, new)):
                moves = self.MOVES[:at] + [move] + self.MOVES[at + 1:]
                if moves != self.MOVES:
                    self.assertIs(leads(4, self.ONE, moves, self.OTHER), False, moves)

    def test_letters_of_more_strands_on_the_way(self):
        moves = [(0, (), (3, -3)), (0, (3, -3), ())]
        self.assertIs(leads(4, (1,), moves, (1,)), True)
        self.assertIs(leads(3, (1,), moves, (1,)), False)

    def test_rewriting_that_no_move_does(self):
        # Each of these would lead there if the letters alone were looked at.
        self.assertIs(leads(3, (1, 2), [(0, (1, 2), (2, 1))], (2, 1)), False)
        self.assertIs(leads(3, (1,), [(0, (1,), (2,))], (2,)), False)
        self.assertIs(leads(3, (1,), [(0, (1,), (1,))], (1,)), False)
        self.assertIs(leads(3, (1,), [(0, (), ())], (1,)), False)
        self.assertIs(leads(3, (1, -2, 1), [(0, (1, -2, 1), (-2, 1, -2))], (-2, 1, -2)), False)
        self.assertIs(leads(3, (1, 1), [(0, (1, 1), ())], ()), False)

    def test_place_that_counts_from_the_end(self):
        self.assertIs(leads(4, (2, 1, 3), [(-2, (1, 3), (3, 1))], (2, 3, 1)), False)
        self.assertIs(leads(4, (2, 1), [(-1, (), (3, -3))], (2, 3, -3, 1)), False)
        self.assertIs(leads(4, (2, 1), [(3, (), (3, -3))], (2, 1, 3, -3)), False)

    def test_same_kind_of_move_again(self):
        put = (0, (), (1, -1))
        self.assertIs(leads(2, (), [put, put], (1, -1, 1, -1)), True)
        self.assertIs(leads(2, (), [put, (2, (1, -1), ())], ()), False)
        self.assertIs(leads(2, (), [put, (5, (), (1, -1))], (1, -1, 1, -1)), False)

    def test_wrong_kind_behind_a_move_with_the_same_letters(self):
        put, take, turn = (0, (), (1, -1)), (0, (1, -1), ()), (0, (1, 2, 1), (2, 1, 2))
        self.assertIs(leads(3, (), [put, (0, (), (1, 1))], (1, 1, 1, -1)), False)
        self.assertIs(leads(3, (), [put, take, put, (0, (1, -1), (2, -2))], (2, -2)), False)
        back = (0, (2, 1, 2), (1, 2, 1))
        self.assertIs(leads(3, (1, 2, 1), [turn, back, (0, (1, 2, 1), (2, 2, 2))], (2, 2, 2)), False)
        self.assertIs(leads(3, (1, 2, 1), [turn, back, (0, (2, 2, 2), (2, 1, 2))], (2, 1, 2)), False)

    def test_list_stays(self):
        for moves in (list(self.MOVES), [(0, (), ())], [(5, (), (1, -1))], []):
            before = list(moves)
            leads(4, self.ONE, moves, self.OTHER)
            self.assertEqual(moves, before)
        self.assertEqual(self.ONE, (1, 2, 1, -2))

    def test_agrees_with_made(self):
        for strands in (2, 3, 5, 8):
            dice = Dice(strands)
            kinds = sorted(kinds_of(strands))
            start = word = dice.word(strands, 12)
            moves = []
            for _ in range(300):
                place = dice.below(len(word) + 1)
                fitting = [kind for kind in kinds if word[place:place + len(kind[0])] == kind[0]]
                if len(word) > 20:
                    fitting = [kind for kind in fitting if kind[0]]
                old, new = kinds[dice.below(len(kinds))]
                if (old, new) not in fitting and old:
                    self.assertIs(leads(strands, start, moves + [(place, old, new)], word), False)
                if fitting:
                    moves.append((place, *fitting[dice.below(len(fitting))]))
                    word = made(strands, word, moves[-1])
            self.assertGreater(len(moves), 50)
            self.assertIs(leads(strands, start, moves, word), True)
            self.assertIs(leads(strands, start, moves, word + (1,)), False)


if __name__ == "__main__":
    unittest.main()
