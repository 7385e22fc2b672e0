"""The reader of a board: it takes just the words that the board fixes."""

from walktold.least import least_within
from walktold.numbering import numbered
from walktold.places import land_joined


def reader(board, colours, most=60):
    """Tell the least reader by these colours that takes just the words that a board fixes, or refuse with TooMany."""
    begun = begun_words(board)

    def row_of(stand):
        return (stand[1][-1] == 0, [read_on(board, begun, stand, colour) for colour in colours])

    return least_within(colours, numbered(("", (0,)), row_of), most)


def begun_words(board):
    """Tell, as a dict of True, all with which a word of the board begins and which isn't that whole word."""
    begun = {word[:at]: True for word in board for at in range(len(word))}
    begun[""] = True
    return begun


def read_on(board, begun, stand, colour):
    """Tell the stand behind one more colour.

    A stand is a pair: the longest begun word with which the colours read so far end, and the lands of its places, 0
    for that of the whole word's place 0. No stretch that ends later begins at a place ahead of these.
    """
    tail, land = stand
    text = tail + colour
    # The new place is in a land of its own, of a number that no other has.
    land = list(land) + [len(text) + 1]
    for word in board:
        if text.endswith(word):
            land = land_joined(land, len(text) - len(word), len(text))
    first = min([at for at in range(len(text) + 1) if text[at:] in begun])
    return (text[first:], plain_lands(land[first:]))


def plain_lands(land):
    """Tell lands numbered as they come, but 0 as it is, so that stands that are alike are the same."""
    numbers = {0: 0}
    return tuple([numbers.setdefault(one, len(numbers)) for one in land])
