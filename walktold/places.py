"""The places of a word, and the stretches by a board between them."""


def stretches(board, word):
    """Tell the rising list of all (i, j, k) such that the colours from place i to place j are the board's word k."""
    return sorted([
        (i, i + len(one), k)
        for i in range(len(word))
        for k, one in enumerate(board)
        if word[i:i + len(one)] == one
    ])


def numbers_by_ends(board, word):
    """Tell for the ends (i, j) of each stretch, i below j, the number of its word."""
    return {(i, j): k for i, j, k in stretches(board, word)}


def neighbours(board, word):
    """Tell for each place the rising list of the places at the other end of a stretch."""
    near = [[] for place in range(len(word) + 1)]
    for i, j, k in stretches(board, word):
        near[i].append(j)
        near[j].append(i)
    return [sorted(places) for places in near]


def lands(board, word):
    """Tell for each place of a word the least place of its land."""
    return all_joined(tuple(range(len(word) + 1)), [(i, j) for i, j, k in stretches(board, word)])


def all_joined(land, ends):
    """Tell the tuple of lands, one for each place, when those of each two ends (i, j) are one."""
    told = list(land)
    for i, j in ends:
        told = land_joined(told, i, j)
    return tuple(told)


def land_joined(land, i, j):
    """Tell the list of lands, one for each place, when those of places i and j are one, called by the lesser number."""
    low, high = min(land[i], land[j]), max(land[i], land[j])
    return [low if one == high else one for one in land]


def is_fixed(board, word):
    """Tell whether a board fixes a word: whether its last place lies in the land of place 0."""
    return lands(board, word)[-1] == 0
