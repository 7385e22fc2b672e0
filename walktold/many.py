"""All zigzags of a word, counted and listed."""

from walktold.places import neighbours
from walktold.zigzags import steps_left


def how_many_zigzags(board, word, places):
    """Tell how many zigzags of a word by a board have just so many places."""
    if places == 0:
        return 0
    # Ways are counted place by place, since zigzags may be too many to be tried.
    near = neighbours(board, word)
    ways = [1] + [0 for colour in word]
    for step in range(places - 1):
        ways = [sum([ways[other] for other in others]) for others in near]
    return ways[-1]


def zigzags_to(board, word, places):
    """Tell the list of all zigzags with at most so many places: by how many they have, then as tuples."""
    near = neighbours(board, word)
    left = steps_left(near, len(word))
    told = []
    ways = [(0,)]
    for number in range(1, places + 1):
        # Ways that can't come to the end in time are gone no farther.
        ways = [way for way in ways if left.get(way[-1], places) <= places - number]
        told.extend([way for way in ways if way[-1] == len(word)])
        # Neighbours are rising, so what is made of ways in order is in order again.
        ways = [way + (place,) for way in ways for place in near[way[-1]]]
    return told
