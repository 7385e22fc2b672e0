"""Maps: pairs of a number of rooms and their rising streets."""

from walktold.errors import NoMap
from walktold.words import is_colour


def may_follow(many, ahead, street):
    """Tell whether a street may stand behind the one ahead (None: it is the first), by many rooms."""
    begin, colour, end = street
    if not (0 <= begin < many and 0 <= end < many and is_colour(colour)):
        return False
    return ahead is None or ahead < street


def look_map(chart):
    """Tell True of a map; any other such pair is refused with NoMap."""
    many, streets = chart
    if many < 1:
        raise NoMap(-1)
    ahead = None
    for at, street in enumerate(streets):
        if not may_follow(many, ahead, street):
            raise NoMap(at)
        ahead = street
    return True
