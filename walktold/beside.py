"""Two maps as one."""


def maps_beside(one, other):
    """Tell the map of both, the second one's rooms numbered on behind the first one's."""
    many = one[0]
    # All rooms of the second are greater now, so its streets are rising behind those of the first.
    moved = tuple([(begin + many, colour, end + many) for begin, colour, end in other[1]])
    return (many + other[0], one[1] + moved)
