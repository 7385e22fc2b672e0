"""What a board fixes at all, of the words of some colours."""

from walktold.numbering import numbered, paired
from walktold.readers import reader


def first_open(board, colours, most=60):
    """Tell the first word, in order, that a board doesn't fix, or None."""
    return first_taken(colours, [(not mark, goes) for mark, goes in reader(board, colours, most)])


def first_beyond(board, colours, most=60):
    """Tell the first word, in order, that a board fixes and that is no chain of its words, or None."""
    return first_between(colours, reader(board, colours, most), chain_reader(board, colours))


def first_unlike(one, other, colours, most=60):
    """Tell the first word, in order, that the first board fixes and the second doesn't, or None."""
    return first_between(colours, reader(one, colours, most), reader(other, colours, most))


def all_from(board, colours, most=60):
    """Tell the least number such that a board fixes all words of at least so many colours, or None."""
    rows = reader(board, colours, most)
    least = 0
    front = [0]
    # A word that has as many colours as there are rows stands at one of them twice: where it isn't taken there are
    # ever longer ones like it, and one of them has less than twice as many colours.
    for number in range(2 * len(rows)):
        if not all([rows[at][0] for at in front]):
            least = number + 1
        front = sorted({go for at in front for go in rows[at][1]})
    return least if least <= len(rows) else None


def first_taken(colours, rows):
    """Tell the first word, in order, that a reader takes, or None; its rows are numbered as they are come to."""
    words = {0: ""}
    for at, (mark, goes) in enumerate(rows):
        if mark:
            return words[at]
        for colour, go in zip(colours, goes):
            words.setdefault(go, words[at] + colour)
    return None


def first_between(colours, one, other):
    """Tell the first word, in order, that the one reader takes and the other doesn't, or None."""
    return first_taken(colours, paired(one, other, lambda one_mark, other_mark: one_mark and not other_mark))


def chain_reader(board, colours):
    """Tell a reader that takes just the chains of a board's words."""
    # A stand has all that may be left to come of a word of the board that has begun where a chain ends.
    def row_of(stand):
        begun = sorted(set(stand + board)) if "" in stand else list(stand)
        return ("" in stand, [tuple(sorted({left[1:] for left in begun if left[:1] == colour})) for colour in colours])

    return numbered(("",), row_of)
