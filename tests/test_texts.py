"""Point 26: words and papers as text."""

import re
import unittest

from strandsplaited.errors import BadText
from strandsplaited.judging import accepts, judge
from strandsplaited.texts import read_paper, read_word, write_paper, write_word
from tests.samples import Dice, changed_by_moves, letters_of

WORD = r"(\.|-?[1-7]( -?[1-7])*)"
TEXT = re.compile(r"([2-8]): " + WORD)
LINE = re.compile(r"(0|[1-9][0-9]{0,8}) " + WORD + " > " + WORD)
# Signs that are put in, and put in the place of others: some are digits of other kinds.
SIGNS = " .:->0123456789+aA,\n\t\u0663\uff11\u00b2\u2212\u00a0"


def is_text(text):
    """Tells whether the string is the text of a word of 2 to 8 strands."""
    found = TEXT.fullmatch(text)
    return bool(found) and all(int(digit) < int(found[1]) for digit in re.findall("[1-7]", found[2]))


def spoilt(text):
    """The text with a character changed, left out, put in or doubled, at each place, and cut."""
    found = {text[::-1], text + text, text.replace(" ", ""), " " + text}
    found |= {text + sign for sign in (" ", "\n", " .", ".", " 1", " > .")}
    for at in range(len(text) + 1):
        found.add(text[:at])
        found.add(text[at:])
        found.add(text[:at] + text[at + 1:])
        found.add(text[:at] + text[at:at + 1] + text[at:])
        for sign in SIGNS:
            found.add(text[:at] + sign + text[at:])
            found.add(text[:at] + sign + text[at + 1:])
    return sorted(found)


class WordTest(unittest.TestCase):

    def check(self, strands, word):
        text = write_word(strands, word)
        self.assertIs(type(text), str)
        self.assertTrue(is_text(text))
        self.assertEqual(read_word(text), (strands, word))
        return text

    def test_examples(self):
        self.assertEqual(write_word(4, (1, -3)), "4: 1 -3")
        self.assertEqual(write_word(2, ()), "2: .")
        self.assertEqual(write_word(8, (-7,)), "8: -7")
        self.assertEqual(read_word("4: 1 -3"), (4, (1, -3)))
        self.assertEqual(read_word("2: ."), (2, ()))
        self.assertIs(type(read_word("3: 1 -2")[1]), tuple)
        self.assertIs(type(read_word("3: 1 -2")), tuple)

    def test_words(self):
        for strands in range(2, 9):
            dice = Dice(strands)
            self.assertEqual(self.check(strands, ()), f"{strands}: .")
            for k in letters_of(strands):
                self.assertEqual(self.check(strands, (k,)), f"{strands}: {k}")
            for length in (2, 3, 10, 500):
                self.check(strands, dice.word(strands, length))

    def test_spoilt_texts(self):
        for strands in range(2, 9):
            dice = Dice(10 + strands)
            for word in ((), (1,), (1 - strands,), dice.word(strands, 2), dice.word(strands, 4)):
                for text in spoilt(write_word(strands, word)):
                    if is_text(text):
                        self.assertEqual(write_word(*read_word(text)), text)
                    else:
                        with self.assertRaises(BadText, msg=repr(text)):
                            read_word(text)

    def test_texts_that_are_none(self):
        for text in ("", " ", ":", ": ", ": .", "4", "4:", "4: ", "4:.", "4 .", "4 : .", "4:  .", "4: . ", "4: 1  2",
                     "4: 1 2 ", "4:  1", "4: +1", "4: --1", "4: 01", "4: -01", "4: 1.", "4: . 1", "4: 1 .", "4: ..",
                     "4: 0", "4: -0", "4: 1 0", "4: 4", "4: -4", "4: 1 5", "4: 10", "1: .", "1: 1", "9: .", "9: 1",
                     "0: .", "10: .", "12: 1", "-4: 1", "+4: 1", "04: 1", "4: 1\n", "4: 1\t2", "4: 1,2", "4: 1 -",
                     "4: 1 - 2", "4: \u0661", "\u0664: 1", "4: \u00b9", "4: \uff11", "4: 1 2 x", "4: 1 2: 3", "4: 4: 1",
                     "8: 8", "8: -8", "2: 2", "2: 1 -2", "4: 1e0", "4: 1_0", "4: None", "4: (1,)", "x", "alike"):
            self.assertFalse(is_text(text))
            with self.assertRaises(BadText, msg=repr(text)):
                read_word(text)


def some_moves(dice):
    """Tuples of which many are no moves, with places of 1 to 9 digits."""
    found = [(0, (), ()), (0, (1, -1), ()), (9, (), (7, -7)), (10, (1,), (1,)), (999999999, (7,) * 9, (-7,)),
             (100000000, (1, 2, 1), (2, 1, 2)), (123, (1, 3), (3, 1)), (0, (1,), ())]
    for digits in range(1, 10):
        for place in (10**digits - 1, 10**(digits - 1), dice.below(10**digits)):
            found.append((place, dice.word(8, dice.below(4)), dice.word(8, dice.below(4))))
    return found


class PaperTest(unittest.TestCase):

    def check(self, paper):
        before = (paper[0], list(paper[1]))
        lines = write_paper(paper)
        self.assertEqual(paper, before)
        self.assertIs(type(lines), list)
        self.assertEqual(len(lines), 1 + len(paper[1]))
        self.assertTrue(all(LINE.fullmatch(line) for line in lines[1:]))
        told = list(lines)
        again = read_paper(lines)
        self.assertEqual(lines, told)
        self.assertIs(type(again), tuple)
        self.assertIs(type(again[1]), list)
        self.assertEqual(again, paper)
        return lines

    def test_examples(self):
        self.assertEqual(read_paper(["alike", "0 1 -1 > ."]), ("alike", [(0, (1, -1), ())]))
        self.assertEqual(write_paper(("less", [(3, (), (2, -2)), (12, (1, 2, 1), (2, 1, 2))])),
                         ["less", "3 . > 2 -2", "12 1 2 1 > 2 1 2"])
        self.assertEqual(write_paper(("more", [(0, (), ())])), ["more", "0 . > ."])
        for told in ("alike", "less", "more"):
            self.assertEqual(write_paper((told, [])), [told])
            self.assertEqual(read_paper([told]), (told, []))

    def test_tuples_that_are_no_moves(self):
        for told in ("alike", "less", "more"):
            self.check((told, some_moves(Dice(1))))
            self.check((told, some_moves(Dice(2))[::-1] * 3))

    def test_lists_are_the_caller_s_own(self):
        moves = [(0, (1, -1), ())] * 2
        lines = write_paper(("alike", moves))
        again = read_paper(lines)
        lines.append("changed")
        again[1].append("changed")
        self.assertEqual(moves, [(0, (1, -1), ())] * 2)
        self.assertEqual(read_paper(lines[:-1]), ("alike", moves))

    def test_spoilt_lines(self):
        for move in ((0, (1, -1), ()), (10, (), (7, -7)), (305, (1, 2, 1), (2, 1, 2)), (0, (), ()),
                     (999999999, (), ())):
            line = write_paper(("less", [move]))[1]
            for other in spoilt(line):
                for lines in (["less", other], ["less", line, other, line]):
                    if LINE.fullmatch(other):
                        self.assertEqual(write_paper(read_paper(lines)), lines)
                    else:
                        with self.assertRaises(BadText, msg=repr(other)):
                            read_paper(lines)

    def test_lines_that_are_none(self):
        for line in ("", " ", ">", " > ", ". > .", "0 > .", "0 . >", "0 .  > .", "0 . > ", "0  > .", "0 . . > .",
                     "0 1 > 1 > 1", "0 . > . > .", "00 . > .", "01 . > .", "-1 . > .", "+1 . > .", "1000000000 . > .",
                     "0000000001 . > .", "0 8 > .", "0 . > -8", "0 0 > .", "0 01 > .", "0 +1 > .", "0 1>2", "0 1 >2",
                     "0 1> 2", "0 1 >  2", "0  1 > 2", "0 1 > 2 ", " 0 1 > 2", "0 1 > 2\n", "0\t1 > 2", "0 1 -> 2",
                     "\u0660 . > .", "\u00b2 . > .", "1_0 . > .", "0 \u0661 > .", "0 1 . > .", "less", "alike",
                     "0: . > ."):
            self.assertIsNone(LINE.fullmatch(line))
            for lines in (["more", line], ["more", "0 . > .", line], ["more", line, "0 . > ."]):
                with self.assertRaises(BadText, msg=repr(line)):
                    read_paper(lines)

    def test_places(self):
        for text in ("0", "1", "9", "10", "99", "100", "123456789", "999999999", "100000000"):
            self.assertEqual(read_paper(["alike", text + " . > ."]), ("alike", [(int(text), (), ())]))
        for text in ("00", "01", "0123456789", "1234567890", "9999999999", "", "x", "1.", "1 0"):
            with self.assertRaises(BadText):
                read_paper(["alike", text + " . > ."])

    def test_first_lines_that_are_none(self):
        with self.assertRaises(BadText):
            read_paper([])
        for first in ("", "equal", "Alike", "alike ", " alike", "alike\n", "ALIKE", "les", "lesss", "moremore",
                      "greater", "0 . > .", "a", "l", ".", "alike 0 . > ."):
            for lines in ([first], [first, "0 . > ."], [first, "alike"], [first, "less", "0 . > ."]):
                with self.assertRaises(BadText):
                    read_paper(lines)
        for lines in (["0 . > .", "alike"], ["alike", "alike"], ["less", "0 . > .", "less"]):
            with self.assertRaises(BadText):
                read_paper(lines)

    def test_lines_left_out_and_doubled(self):
        paper = ("more", some_moves(Dice(3)))
        lines = write_paper(paper)
        for at in range(1, len(lines)):
            self.assertEqual(read_paper(lines[:at] + lines[at + 1:]), ("more", paper[1][:at - 1] + paper[1][at:]))
            self.assertEqual(read_paper(lines[:at] + lines[at:at + 1] * 2 + lines[at + 1:]),
                             ("more", paper[1][:at - 1] + paper[1][at - 1:at] * 2 + paper[1][at:]))
        with self.assertRaises(BadText):
            read_paper(lines[1:])

    def test_papers_of_judge(self):
        for strands in range(2, 9):
            dice = Dice(20 + strands)
            for length in (0, 1, 3, 9, 27):
                one = dice.word(strands, length)
                _, alike = changed_by_moves(dice, strands, one, 10)
                for other in (alike, alike + (1,), (1 - strands,) + alike, dice.word(strands, length)):
                    paper = judge(strands, one, other)
                    lines = self.check(paper)
                    more, first = read_word(write_word(strands, one))
                    same, second = read_word(write_word(strands, other))
                    self.assertEqual((more, same), (strands, strands))
                    self.assertIs(accepts(strands, first, second, read_paper(lines)), True)

    def test_long_paper(self):
        dice = Dice(40)
        one, other = dice.word(8, 500), dice.word(8, 500)
        paper = judge(8, one, other)
        self.assertIs(accepts(8, one, other, read_paper(write_paper(paper))), True)


if __name__ == "__main__":
    unittest.main()
