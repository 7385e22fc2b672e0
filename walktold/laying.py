"""Zigzags by one board laid in by another."""

from walktold.boards import fixes
from walktold.steps import steps_of


def laid_in(word, zigzag, board, other):
    """Tell the zigzag by the other board that has, for each step of one by a board, the zigzag of the step's word."""
    zigzags = fixes(other, board)[1]
    laid = [0]
    for begin, end, (way, number) in zip(zigzag, zigzag[1:], steps_of(board, word, zigzag)):
        places = [min(begin, end) + place for place in zigzags[number]]
        if way == "back":
            places.reverse()
        # Where two meet the place stands already.
        laid.extend(places[1:])
    return tuple(laid)
