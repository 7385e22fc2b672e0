"""Zigzags and words of a board that cost least."""

from walktold.needs import cheapest_words
from walktold.places import stretches


def cheapest(board, word, prices):
    """Tell (price, zigzag) of the cheapest zigzag, of several that with the fewest places, the least, or None."""
    goes = priced_goes(board, word, prices)
    left = costs_left(goes, len(word))
    if 0 not in left:
        return None
    # Each step leads one nearer to the end, so the least of the best ways is found place by place.
    place = 0
    places = [place]
    while place != len(word):
        paid, steps = left[place]
        place = min([other for other, price in goes[place].items() if left[other] == (paid - price, steps - 1)])
        places.append(place)
    return (left[0][0], tuple(places))


def priced_goes(board, word, prices):
    """Tell for each place a dict of the places at the other end of a stretch, with the stretch's price."""
    goes = [{} for place in range(len(word) + 1)]
    for i, j, k in stretches(board, word):
        goes[i][j] = prices[k]
        goes[j][i] = prices[k]
    return goes


def costs_left(goes, goal):
    """Tell for each place from which the goal can be come to the least (price, steps) to it."""
    left = {}
    begun = {goal: (0, 0)}
    while begun:
        # No way over another place is better than the best of all that are begun.
        (paid, steps), place = min([(cost, place) for place, cost in begun.items()])
        del begun[place]
        left[place] = (paid, steps)
        for other, price in goes[place].items():
            cost = (paid + price, steps + 1)
            if other not in left and (other not in begun or cost < begun[other]):
                begun[other] = cost
    return left


def bought(board, word, prices):
    """Tell (price, numbers) of the cheapest words that together fix a word, each paid once, or None."""
    told = cheapest_words(board, word, prices)
    return None if told is None else (told[0], told[2])
