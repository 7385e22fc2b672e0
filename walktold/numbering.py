"""Readers made from their beginning on, each row numbered as it is come to."""

from walktold.errors import TooMany


def numbered(begin, row_of, most=None):
    """Tell the reader that begins at a stand; row_of tells of any stand its mark and where each colour leads from it.

    Stands may be whatever can be a key: each that is come to becomes a row. Where a number is handed in, it is refused
    with TooMany when there are more of them.
    """
    numbers = {begin: 0}
    stands = [begin]
    rows = []
    while len(rows) < len(stands):
        if most is not None and len(stands) > most:
            raise TooMany(most)
        mark, others = row_of(stands[len(rows)])
        for stand in others:
            if stand not in numbers:
                numbers[stand] = len(stands)
                stands.append(stand)
        rows.append((mark, tuple([numbers[stand] for stand in others])))
    return tuple(rows)


def paired(one, other, mark_of):
    """Tell a reader that goes by two at once; mark_of tells the mark of both ones' marks."""
    def row_of(stand):
        one_mark, one_goes = one[stand[0]]
        other_mark, other_goes = other[stand[1]]
        return (mark_of(one_mark, other_mark), list(zip(one_goes, other_goes)))

    return numbered((0, 0), row_of)
