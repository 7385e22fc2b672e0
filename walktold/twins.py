"""Two maps that a board can't tell apart and a word can."""

from walktold.errors import IsFixed
from walktold.places import lands
from walktold.tables import board_tables, table


def twins(board, word):
    """Tell the pair of maps that part a word from a board, or refuse a word that is fixed with IsFixed."""
    land = lands(board, word)
    if land[-1] == 0:
        raise IsFixed()
    straight = [False for colour in word]
    crossed = [(one == 0) != (other == 0) for one, other in zip(land, land[1:])]
    return (double_map(word, straight), double_map(word, crossed))


def double_map(word, crossed):
    """Tell the map of two rooms for each place of a word, whose colours lead straight on or are crossed."""
    streets = []
    for place, colour in enumerate(word):
        turn = 1 if crossed[place] else 0
        streets.append((2 * place, colour, 2 * place + 2 + turn))
        streets.append((2 * place + 1, colour, 2 * place + 3 - turn))
    return (2 * len(word) + 2, tuple(streets))


def part(board, word, one, other):
    """Tell whether two maps have as many rooms, the same tables of the board's words, and unlike ones of the word."""
    if one[0] != other[0] or board_tables(one, board) != board_tables(other, board):
        return False
    return table(one, word) != table(other, word)
