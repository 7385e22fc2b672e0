"""Words, boards, maps and zigzags turned about."""


def word_turned(word):
    """Tell a word from its end."""
    return word[::-1]


def board_turned(board):
    """Tell the board of each word turned about."""
    return tuple([word_turned(word) for word in board])


def map_turned(chart):
    """Tell the map whose streets lead the other way."""
    many, streets = chart
    return (many, tuple(sorted([(end, colour, begin) for begin, colour, end in streets])))


def zigzag_turned(word, zigzag):
    """Tell a zigzag, or any tuple of places of a word, from its end, by places of the word turned about."""
    return tuple([len(word) - place for place in reversed(zigzag)])
