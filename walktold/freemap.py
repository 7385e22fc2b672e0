"""The free map: no more walks than some tables ask for."""


def free_map(many, board, tables):
    """Tell the map of so many rooms with a walk, by rooms of its own, for each pair of each word's table."""
    streets = []
    for word, pairs in zip(board, tables):
        for begin, end in pairs:
            behind = many + len(word) - 1
            rooms = [begin] + list(range(many, behind)) + [end]
            streets.extend(list(zip(rooms, word, rooms[1:])))
            many = behind
    return (many, tuple(sorted(streets)))
