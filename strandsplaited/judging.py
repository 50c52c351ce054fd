"""Papers: which of two words is less, or that they are alike, with moves by which a small checker sees it."""

from strandsplaited.bench import Bench
from strandsplaited.moves import leads, led_to
from strandsplaited.reducing import reduced, sense
from strandsplaited.words import undone


def judge(strands, one, other):
    """Returns an accepted paper for the two words: a string and a list of moves."""
    moves, last = reduced(strands, undone(one) + other)
    told = sense(last)
    if told == 0:
        return "alike", _moves_between(one, moves)
    return "less" if told > 0 else "more", moves


def _moves_between(one, moves):
    """Returns moves that lead the first word to the second one.

    Those that are passed lead the undone first word with the second one behind
    it to the empty word. Made backwards, behind the first word, they put these
    two there; then the first word and the undone one take each other out.
    """
    bench = Bench(one)
    for place, old, new in moves[::-1]:
        bench.make(len(one) + place, new, old)
    for place in reversed(range(len(one))):
        bench.take_pair(place)
    return bench.moves


def accepts(strands, one, other, paper):
    """Tells whether the paper is accepted for the two words."""
    told, moves = paper
    if told == "alike":
        return leads(strands, one, moves, other)
    last = led_to(strands, undone(one) + other, moves)
    if last is None:
        return False
    return (told, sense(last)) in (("less", 1), ("more", -1))
