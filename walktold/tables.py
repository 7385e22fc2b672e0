"""Tables: which pairs of rooms a word joins, and what is made of two tables."""


def table(chart, word):
    """Tell a word's table on a map."""
    many, streets = chart
    goes = {}
    for begin, colour, end in streets:
        goes.setdefault((begin, colour), []).append(end)
    pairs = []
    for x in range(many):
        # Rooms, not walks, are kept from colour to colour: walks may be too many.
        front = [x]
        for colour in word:
            front = sorted({end for room in front for end in goes.get((room, colour), [])})
        pairs.extend([(x, y) for y in front])
    return tuple(pairs)


def ends_by_begin(pairs):
    """Tell for each room that stands ahead in some pair the list of the rooms behind it."""
    ends = {}
    for begin, end in pairs:
        ends.setdefault(begin, []).append(end)
    return ends


def over(one, other):
    """Tell the table of all (x, z) that some y joins by (x, y) in the one and (y, z) in the other."""
    ends = ends_by_begin(other)
    return tuple(sorted({(x, z) for x, y in one for z in ends.get(y, [])}))


def every(many, one, other):
    """Tell the table of all (x, y) where (x, z) is in the one for every (y, z) of the other."""
    held = {pair: True for pair in one}
    ends = ends_by_begin(other)
    rooms = list(range(many))
    return tuple([(x, y) for x in rooms for y in rooms if all([(x, z) in held for z in ends.get(y, [])])])


def board_tables(chart, board):
    """Tell the tables of a board's words on a map, in the board's order."""
    return tuple([table(chart, word) for word in board])
