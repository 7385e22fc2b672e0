"""Readers made of other readers by the same colours."""

from walktold.least import least_reader, least_within
from walktold.numbering import numbered, paired


def by_both(colours, one, other, most=60):
    """Tell the least reader of the words that both take, or refuse with TooMany."""
    return least_within(colours, paired(one, other, lambda one_mark, other_mark: one_mark and other_mark), most)


def by_either(colours, one, other, most=60):
    """Tell the least reader of the words that either takes, or refuse with TooMany."""
    return least_within(colours, paired(one, other, lambda one_mark, other_mark: one_mark or other_mark), most)


def by_none(colours, reader, most=60):
    """Tell the least reader of the words that a reader doesn't take, or refuse with TooMany."""
    return least_within(colours, tuple([(not mark, goes) for mark, goes in reader]), most)


def turned_reader(colours, reader, most=60):
    """Tell the least reader of a reader's words turned about, or refuse with TooMany."""
    # A stand is all rows from which what was read, turned about, leads to a mark. Where each row is come to by some
    # word no two stands take alike, so they are the least reader's rows, and no more than most need be made.
    rows = least_reader(colours, reader)

    def row_of(stand):
        return (0 in stand, [rows_ahead(rows, at, stand) for at in range(len(colours))])

    return numbered(tuple([row for row, (mark, goes) in enumerate(rows) if mark]), row_of, most)


def rows_ahead(rows, at, stand):
    """Tell the rows from which the colour of this number leads to some of these rows."""
    return tuple([row for row, (mark, goes) in enumerate(rows) if goes[at] in stand])
