"""Words, boards and zigzags with words put for some colours, and maps gathered by the same."""

from walktold.tables import table


def word_spread(pairs, word):
    """Tell a word with the pair's word in the place of each colour that has a pair."""
    words = dict(pairs)
    return "".join([words.get(colour, colour) for colour in word])


def board_spread(pairs, board):
    """Tell the board of each word so spread, those that are alike once, where they come first."""
    return tuple({word_spread(pairs, word): True for word in board})


def zigzag_spread(pairs, word, zigzag):
    """Tell the places to which a tuple of places of a word come when it is spread."""
    return tuple([len(word_spread(pairs, word[:place])) for place in zigzag])


def gathered(pairs, chart):
    """Tell the map whose streets of each pair's colour are the table of its word; of other colours they stay."""
    many, streets = chart
    words = dict(pairs)
    told = [street for street in streets if street[1] not in words]
    for colour, word in pairs:
        told.extend([(x, colour, y) for x, y in table(chart, word)])
    return (many, tuple(sorted(told)))
