"""Boards that fix other boards, and what can be spared of them."""

from walktold.zigzags import zigzag


def fixes(board, other):
    """Tell ("fixes", zigzags) of the other board's words, or ("falls", k) of its first word that isn't fixed."""
    zigzags = []
    for number, word in enumerate(other):
        places = zigzag(board, word)
        if places is None:
            return ("falls", number)
        zigzags.append(places)
    return ("fixes", tuple(zigzags))


def are_same(one, other):
    """Tell whether two boards fix the same words."""
    return fixes(one, other)[0] == "fixes" and fixes(other, one)[0] == "fixes"


def lean(board):
    """Tell the board of just those words that the others of it together don't fix."""
    return tuple([word for at, word in enumerate(board) if zigzag(board[:at] + board[at + 1:], word) is None])


def joined(one, other):
    """Tell the board of the first one's words, then those of the second that it hasn't."""
    return one + tuple([word for word in other if word not in one])
