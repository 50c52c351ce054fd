"""Leading a word to one that has a sense, by taking out its handles.

A handle is a stretch of a word that begins with a letter k and ends with -k
(or the other way round), with no letter of the absolute values |k| and |k| - 1
between. Its outer letters can be taken out if all letters of the absolute
value |k| + 1 between them have one sign: the one outer letter is led through
to the other one, and what it crosses on its way changes. However handles are
chosen, this ends (a theorem of Dehornoy), and a word without handles has a
sense.
"""

from strandsplaited.bench import Bench


def sense(word):
    """Returns the sense of the word, or None if it has none."""
    if not word:
        return 0
    least = min([abs(letter) for letter in word])
    if -least not in word:
        return 1
    if least not in word:
        return -1
    return None


def reduced(strands, word):
    """Returns a list of moves, and the word with a sense to which they lead the word."""
    if sense(word) is not None:
        return [], word
    bench = Bench(word)
    end = 0
    while end < len(bench.letters):
        start = _handle_start(bench.letters, end)
        if start is None:
            end += 1
        else:
            _take_out(bench, start, end)
            # What stands further ahead is as it was, and no handle ended there.
            end = max(start - 1, 0)
    return bench.moves, tuple(bench.letters)


def _handle_start(letters, end):
    """Returns the place at which the handle begins that ends at this one, or None if none does."""
    size = abs(letters[end])
    bounds = (size - 1, size)
    place = end - 1
    while place >= 0 and abs(letters[place]) not in bounds:
        place -= 1
    if place >= 0 and letters[place] == -letters[end]:
        return place
    return None


def _take_out(bench, start, end):
    """Takes out the outer letters of a handle in which no other handle ends.

    So the inner letters that count have one sign. The outer letter of this
    sign is the one to lead: it passes each of them by two moves at most.
    """
    first = bench.letters[start]
    inner = first + 1 if first > 0 else first - 1
    if -inner in bench.letters[start:end]:
        _lead_last(bench, start, end)
    else:
        _lead_first(bench, start, end)


def _lead_first(bench, start, end):
    """Leads the first letter of the handle to the last one, and takes both out."""
    letters = bench.letters
    at = start
    while at + 1 < end:
        letter = letters[at + 1]
        if _are_apart(letter, letters[at]):
            bench.exchange(at)
        else:
            if at == 0 or letters[at - 1] != letter:
                bench.put_pair(at, -letter)
                at += 2
                end += 2
            bench.turn(at - 1)
        at += 1
    bench.take_pair(at)


def _lead_last(bench, start, end):
    """Leads the last letter of the handle to the first one, and takes both out."""
    letters = bench.letters
    at = end
    while start + 1 < at:
        letter = letters[at - 1]
        if _are_apart(letter, letters[at]):
            bench.exchange(at - 1)
        else:
            if at + 1 == len(letters) or letters[at + 1] != letter:
                bench.put_pair(at + 1, letter)
            bench.turn(at - 1)
        at -= 1
    bench.take_pair(start)


def _are_apart(letter, other):
    """Tells whether the two crossings have no strand in common."""
    return abs(abs(letter) - abs(other)) >= 2
