"""Readers that go both ways over a word's places."""


def is_two_way(colours, two):
    """Tell whether any tuple of pairs of a truth and a tuple of triples is a two-way reader by these colours."""
    if len(two) == 0:
        return False
    # As a list: a text would also be asked for two colours at once, or none.
    known = list(colours)
    return all([
        way in (1, -1) and colour in known and 0 <= row < len(two)
        for mark, goes in two
        for way, colour, row in goes
    ])


def two_takes(colours, two, word):
    """Tell whether a two-way reader takes a word of its colours."""
    # A stand that was come to once is not gone on from again, so goings that never end are no matter.
    stands = [(0, 0)]
    seen = {(0, 0): True}
    while stands:
        place, row = stands.pop()
        if place == len(word) and two[row][0]:
            return True
        for stand in next_stands(two, word, place, row):
            if stand not in seen:
                seen[stand] = True
                stands.append(stand)
    return False


def next_stands(two, word, place, row):
    """Tell the pairs of a place and a row to which one going leads from a place and a row."""
    ahead, behind = word[place:place + 1], word[:place][-1:]
    told = []
    for way, colour, other in two[row][1]:
        if colour == (ahead if way == 1 else behind):
            told.append((place + way, other))
    return told


def two_way_of(board, colours):
    """Tell a two-way reader that takes just the words of these colours that a board fixes."""
    # At row 0 a zigzag stands at one of its places; the others are within a step along one word, on or back.
    rows = [(True, [])]
    for word in board:
        if all([colour in colours for colour in word]):
            lay_way(rows, 1, word)
            lay_way(rows, -1, word[::-1])
    return tuple([(mark, tuple(goes)) for mark, goes in rows])


def lay_way(rows, way, word):
    """Add the rows and goings that lead one way along a word's colours from row 0 to row 0."""
    row = 0
    for colour in word[:-1]:
        rows.append((False, []))
        rows[row][1].append((way, colour, len(rows) - 1))
        row = len(rows) - 1
    rows[row][1].append((way, word[-1], 0))
