"""The ends of words by a two-way reader: where it can stand at a word's last place."""

from walktold.tables import over


def ends_of(colours, two, word):
    """Tell the rows come to at a word's last place, and the pairs of rows between which some going leads there."""
    ends = first_ends(two)
    for colour in word:
        ends = ends_on(two, ends, colour)
    return ends


def first_ends(two):
    """Tell the ends of the word without colours."""
    return ((0,), tuple([(row, row) for row in range(len(two))]))


def ends_on(two, ends, colour):
    """Tell the ends of a word behind which one more colour stands."""
    come, table = ends
    on, back = goings(two, 1, colour), goings(two, -1, colour)
    # From the new last place and to it again some going leads back, about by the ends known, and on, any often.
    about = any_often(len(two), over(back, over(table, on)))
    begun = over(tuple([(0, row) for row in come]), on)
    return (tuple([row for begin, row in over(begun, about)]), about)


def goings(two, way, colour):
    """Tell the rising pairs of rows between which a going by a colour leads this way."""
    return tuple(sorted({
        (row, other)
        for row, (mark, goes) in enumerate(two)
        for gone, seen, other in goes
        if gone == way and seen == colour
    }))


def any_often(many, pairs):
    """Tell the rising pairs of rows, of so many, between which some of these pairs lead one behind the other."""
    told = tuple(sorted(set(pairs) | {(row, row) for row in range(many)}))
    longer = over(told, told)
    while longer != told:
        told = longer
        longer = over(told, told)
    return told
