"""Walks on a map by a word's colours."""


def walk(chart, word, x, y):
    """Tell the least walk of a word from room x to room y of a map, or None."""
    streets = chart[1]
    leading = rooms_leading(streets, word, y)
    if x not in leading[0]:
        return None
    # All walks of a word are as long, so the least is found by the least next room that still leads to y.
    room = x
    rooms = [room]
    for place, colour in enumerate(word):
        room = min(next_rooms(streets, room, colour, leading[place + 1]))
        rooms.append(room)
    return tuple(rooms)


def rooms_leading(streets, word, y):
    """Tell for each place of a word, as a dict of True, the rooms from which the colours behind it lead to y."""
    leading = [{y: True}]
    for colour in reversed(word):
        behind = leading[-1]
        leading.append({begin: True for begin, seen, end in streets if seen == colour and end in behind})
    return leading[::-1]


def next_rooms(streets, room, colour, leading):
    """Tell the leading rooms to which a street of a colour goes from a room."""
    return [end for begin, seen, end in streets if begin == room and seen == colour and end in leading]
