"""Papers that show whether a board fixes a word."""

from walktold.steps import let_by, steps_of
from walktold.twins import part, twins
from walktold.zigzags import zigzag


def paper(board, word):
    """Tell ("steps", steps) of a word that the board fixes, else ("maps", one, other)."""
    places = zigzag(board, word)
    if places is None:
        one, other = twins(board, word)
        return ("maps", one, other)
    return ("steps", steps_of(board, word, places))


def shows(board, word, paper):
    """Tell whether a paper, whoever wrote it, shows what it says."""
    if paper[0] == "steps":
        return let_by(board, word, paper[1])
    if paper[0] == "maps":
        return part(board, word, paper[1], paper[2])
    return False
