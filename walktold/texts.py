"""Boards and maps as texts, and read again from them."""

from walktold.errors import BadText, NoBoard
from walktold.maps import may_follow
from walktold.words import look_board

NO_WORDS = "-"
MOST_FIGURES = 3


def show_board(board):
    """Tell a board's text."""
    return " ".join(board) if board else NO_WORDS


def read_board(text):
    """Tell the board of a text, or refuse it with BadText."""
    if text == NO_WORDS:
        return ()
    board = tuple(text.split(" "))
    try:
        look_board(board)
    except NoBoard:
        raise BadText(0) from None
    return board


def show_map(chart):
    """Tell a map's text."""
    many, streets = chart
    rows = [f"{begin} {colour} {end}" for begin, colour, end in streets]
    return "\n".join([f"rooms {many}"] + rows)


def read_map(text):
    """Tell the map of a text, or refuse it with BadText."""
    rows = text.split("\n")
    many = read_rooms(rows[0])
    if many is None:
        raise BadText(0)
    streets = []
    ahead = None
    for row in rows[1:]:
        street = read_street(row)
        if street is None or not may_follow(many, ahead, street):
            raise BadText(len(streets) + 1)
        streets.append(street)
        ahead = street
    return (many, tuple(streets))


def read_rooms(row):
    """Tell the number of rooms of a map's first row, or None."""
    parts = row.split(" ")
    if len(parts) != 2 or parts[0] != "rooms":
        return None
    many = read_number(parts[1])
    return None if many == 0 else many


def read_street(row):
    """Tell the triple of a street's row, whatever its rooms and colour, or None."""
    parts = row.split(" ")
    if len(parts) != 3:
        return None
    begin, end = read_number(parts[0]), read_number(parts[2])
    if begin is None or end is None:
        return None
    return (begin, parts[1], end)


def read_number(text):
    """Tell the number of a text of one to three figures, no nought ahead of others, or None."""
    # Only the figures 0 to 9 count: Python's own reading takes signs, blanks and foreign figures too.
    if not 1 <= len(text) <= MOST_FIGURES or not all(["0" <= sign <= "9" for sign in text]):
        return None
    if len(text) > 1 and text[0] == "0":
        return None
    return int(text)
