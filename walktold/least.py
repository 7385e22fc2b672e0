"""The least reader that takes the same words as another."""

from walktold.numbering import numbered


def least_reader(colours, reader):
    """Tell the reader with the fewest rows that takes the same words, numbered as they are come to."""
    groups = alike(reader)
    rows = {group: row for group, row in zip(groups, reader)}

    def row_of(group):
        mark, goes = rows[group]
        return (mark, [groups[go] for go in goes])

    return numbered(groups[0], row_of)


def alike(reader):
    """Tell for each row the number of its group: rows of one group take the same words from there on."""
    groups = [0 for row in reader]
    many = 0
    # Groups are parted until a turn parts none: each turn looks one colour farther.
    while many < len(set(groups)):
        many = len(set(groups))
        groups = parted(reader, groups)
    return groups


def parted(reader, groups):
    """Tell the groups anew, so that rows of one group have the same mark and go to the same groups."""
    numbers = {}
    told = []
    for group, (mark, goes) in zip(groups, reader):
        form = (group, mark, tuple([groups[go] for go in goes]))
        told.append(numbers.setdefault(form, len(numbers)))
    return told
