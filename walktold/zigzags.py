"""Zigzags: ways along stretches from a word's first place to its last."""

from walktold.places import neighbours, numbers_by_ends


def zigzag(board, word):
    """Tell the zigzag with the fewest places, of these the least, or None."""
    near = neighbours(board, word)
    left = steps_left(near, len(word))
    if 0 not in left:
        return None
    # Going to the least place that is one step nearer gives the least of the shortest ways.
    place = 0
    places = [place]
    while place != len(word):
        place = min([other for other in near[place] if left[other] == left[place] - 1])
        places.append(place)
    return tuple(places)


def steps_left(near, goal):
    """Tell for each place from which the goal can be come to the fewest steps to it."""
    left = {goal: 0}
    front = [goal]
    while front:
        behind = []
        for place in front:
            for other in near[place]:
                if other not in left:
                    left[other] = left[place] + 1
                    behind.append(other)
        front = behind
    return left


def is_zigzag(board, word, places):
    """Tell whether any tuple of whole numbers is a zigzag of a word by a board."""
    if len(places) == 0 or places[0] != 0 or places[-1] != len(word):
        return False
    numbers = numbers_by_ends(board, word)
    return all([(min(one, other), max(one, other)) in numbers for one, other in zip(places, places[1:])])
