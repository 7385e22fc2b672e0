"""Rows of steps: zigzags told by the board's words that they walk."""

from walktold.places import numbers_by_ends, stretches


def steps_of(board, word, zigzag):
    """Tell the steps of a zigzag of a word by a board."""
    numbers = numbers_by_ends(board, word)
    steps = []
    for one, other in zip(zigzag, zigzag[1:]):
        if one < other:
            steps.append(("on", numbers[(one, other)]))
        else:
            steps.append(("back", numbers[(other, one)]))
    return tuple(steps)


def let_by(board, word, steps):
    """Tell whether any tuple of pairs of a text and a whole number is the steps of some zigzag."""
    goes = {}
    for i, j, k in stretches(board, word):
        goes[(i, "on", k)] = j
        goes[(j, "back", k)] = i
    # A step leads from a place to one other at most, so there is one way only to be tried.
    place = 0
    for way, number in steps:
        place = goes.get((place, way, number))
        if place is None:
            return False
    return place == len(word)


def walked(steps):
    """Tell the numbers of the words of a row of steps, rising, each once."""
    return tuple(sorted({number for way, number in steps}))
