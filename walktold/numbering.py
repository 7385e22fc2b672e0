"""Readers made from their beginning on, each row numbered as it is come to."""


def numbered(begin, row_of):
    """Tell the reader that begins at a stand; row_of tells of any stand its mark and where each colour leads from it.

    Stands may be whatever can be a key: each that is come to becomes a row.
    """
    numbers = {begin: 0}
    stands = [begin]
    rows = []
    while len(rows) < len(stands):
        mark, others = row_of(stands[len(rows)])
        for stand in others:
            if stand not in numbers:
                numbers[stand] = len(stands)
                stands.append(stand)
        rows.append((mark, tuple([numbers[stand] for stand in others])))
    return tuple(rows)
