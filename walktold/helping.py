"""Words that help a board to fix a word."""

from walktold.boards import joined
from walktold.places import is_fixed


def helping(board, word):
    """Tell the first word, in order, that put up besides makes a word fixed; None where it is fixed already."""
    if is_fixed(board, word):
        return None
    helpers = [part for length, part in parts_in_order(word) if is_fixed(joined(board, (part,)), word)]
    return helpers[0]


def parts_in_order(word):
    """Tell the pairs (length, part) of all words that stand in a word, in order; no others make new stretches in it."""
    return sorted({(j - i, word[i:j]) for i in range(len(word)) for j in range(i + 1, len(word) + 1)})
