"""Pairs of rooms that are sure to be joined by a word, whatever else is on the map."""

from walktold.places import stretches
from walktold.tables import over


def sure(many, board, tables, word):
    """Tell the table of all pairs to which the tables of words lead into which the word is cut."""
    told = {0: tuple([(room, room) for room in range(many)])}
    # Stretches are rising, so all that lead to a place are gone before those that begin there.
    for i, j, k in stretches(board, word):
        led = over(told.get(i, ()), tables[k])
        told[j] = tuple(sorted(set(led) | set(told.get(j, ()))))
    return told.get(len(word), ())


def how_sure(many, board, tables, word, x, y):
    """Tell by which words, the fewest, of these the least, a pair is sure: a tuple of their numbers, or None."""
    best = {(0, x): (0, ())}
    for i, j, k in stretches(board, word):
        for begin, end in tables[k]:
            if (i, begin) in best:
                words, numbers = best[(i, begin)]
                cut = (words + 1, numbers + (k,))
                best[(j, end)] = min(cut, best.get((j, end), cut))
    told = best.get((len(word), y))
    return None if told is None else told[1]
