"""The least reader that takes the same words as another."""

from walktold.errors import TooMany
from walktold.numbering import numbered


def least_reader(colours, reader):
    """Tell the reader with the fewest rows that takes the same words, numbered as they are come to."""
    return least_within(colours, reader, len(reader))


def least_within(colours, reader, most):
    """Tell the least reader, or refuse it with TooMany where it has more rows than most."""
    # Rows that aren't come to are left out first: each group of the others is a row of the least reader.
    come = numbered(0, lambda row: reader[row])
    groups = alike(come, most)
    rows = {group: row for group, row in zip(groups, come)}

    def row_of(group):
        mark, goes = rows[group]
        return (mark, [groups[go] for go in goes])

    return numbered(groups[0], row_of)


def alike(reader, most):
    """Tell for each row the number of its group: rows of one group take the same words from there on.

    Refused with TooMany where there are more groups than most.
    """
    groups = [0 for row in reader]
    many = 0
    # Groups are parted until a turn parts none: each turn looks one colour farther. They never become fewer, so there
    # are no more turns than most, however many rows there are.
    while many < len(set(groups)):
        many = len(set(groups))
        if many > most:
            raise TooMany(most)
        groups = parted(reader, groups)
    return groups


def parted(reader, groups):
    """Tell the groups anew, so that rows of one group have the same mark and go to the same groups."""
    numbers = {}
    told = []
    for group, (mark, goes) in zip(groups, reader):
        form = (group, mark, tuple([groups[go] for go in goes]))
        told.append(numbers.setdefault(form, len(numbers)))
    return told
