"""Which words of a board a word needs, which are enough for it, and how far its places are."""

from walktold.places import all_joined, is_fixed, neighbours, stretches
from walktold.zigzags import steps_left


def needed(board, word):
    """Tell the numbers of the words without each of which by itself a board doesn't fix a word."""
    return tuple([at for at in range(len(board)) if not is_fixed(board[:at] + board[at + 1:], word)])


def enough(board, word):
    """Tell the numbers of the fewest words that together fix a word, of several the least, or None."""
    told = cheapest_words(board, word, [1 for one in board])
    return None if told is None else told[2]


def cheapest_words(board, word, prices):
    """Tell (price, how many, numbers) of the cheapest words that together fix a word, or None.

    Of several they are the fewest, of these the least.
    """
    # Words that make the same lands help alike with all that follow, so of these the best alone are kept.
    best = {tuple(range(len(word) + 1)): (0, 0, ())}
    for number, price in enumerate(prices):
        ends = [(i, j) for i, j, k in stretches(board, word) if k == number]
        for land, (paid, many, numbers) in list(best.items()):
            further = all_joined(land, ends)
            cost = (paid + price, many + 1, numbers + (number,))
            if further not in best or cost < best[further]:
                best[further] = cost
    return min([cost for land, cost in best.items() if land[-1] == 0], default=None)


def far(board, word):
    """Tell for each place of a word the fewest steps from place 0 to it, or -1."""
    # Steps are gone forward or back, so those that lead to place 0 are as many as those that lead from it.
    steps = steps_left(neighbours(board, word), 0)
    return tuple([steps.get(place, -1) for place in range(len(word) + 1)])
