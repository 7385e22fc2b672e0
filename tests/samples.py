"""Maps and words that several tests walk through, and slow plain ways to reckon the same things."""

from itertools import combinations, product


def all_words(colours, most):
    """All words of these colours with at most so many, the one without colours first."""
    return ["".join(signs) for many in range(most + 1) for signs in product(colours, repeat=many)]


def all_maps(many, colours):
    """All maps of so many rooms with streets of these colours."""
    streets = list(product(range(many), colours, range(many)))
    for number in range(len(streets) + 1):
        for some in combinations(streets, number):
            yield (many, some)


def some_maps(many, colours, number, state=1):
    """So many maps, the same ones each time: a plain row of numbers picks the streets."""
    streets = list(product(range(many), colours, range(many)))
    for turn in range(number):
        picked = []
        for street in streets:
            state = (state * 1103515245 + 12345) % 2147483648
            if (state >> 16) % many < 1 + turn % 2:
                picked.append(street)
        yield (many, tuple(picked))


def all_walks(chart, word):
    """All walks of a word on a map, rising."""
    many, streets = chart
    walks = [(room,) for room in range(many)]
    for colour in word:
        walks = [walk + (end,) for walk in walks for begin, seen, end in streets
                 if begin == walk[-1] and seen == colour]
    return sorted(walks)


def all_zigzags(board, word, most):
    """All zigzags of a word with at most so many places: by how many they have, then as tuples."""
    def joined(one, other):
        return one != other and word[min(one, other):max(one, other)] in board
    found = []
    rows = [(0,)]
    for number in range(most):
        found += [row for row in rows if row[-1] == len(word)]
        rows = [row + (place,) for row in rows for place in range(len(word) + 1) if joined(row[-1], place)]
    return found


def is_least(colours, reader):
    """Whether a reader's rows are numbered as they are come to and no two of them take alike."""
    come = [0]
    for row in come:
        come += [go for at, go in enumerate(reader[row][1]) if go not in come + list(reader[row][1][:at])]
    if come != list(range(len(reader))):
        return False
    tails = [tuple(mark for mark, goes in reader)]
    for number in range(len(reader)):
        tails += [tuple(tail[goes[at]] for mark, goes in reader) for tail in tails for at in range(len(colours))]
        tails = sorted(set(tails))
    return len(set(zip(*tails))) == len(reader)


def is_chain(board, word):
    """Whether a word is some words of a board one behind the other."""
    return word == "" or any(word.startswith(known) and is_chain(board, word[len(known):]) for known in board)


def two_way_stands(two, word, begin):
    """All (place, row) to which goings of a two-way reader lead on a word's places from one such pair, itself too."""
    found = {begin}
    while True:
        more = set(found)
        for place, row in found:
            for way, colour, other in two[row][1]:
                if way == 1 and place < len(word) and word[place] == colour:
                    more.add((place + 1, other))
                if way == -1 and place > 0 and word[place - 1] == colour:
                    more.add((place - 1, other))
        if more == found:
            return found
        found = more


def picker(state):
    """A def that picks a number below another one, by a plain row of numbers."""
    def picked(below):
        nonlocal state
        state = (state * 1103515245 + 12345) % 2147483648
        return (state >> 16) % below
    return picked


def some_two_way(many, colours, goings, number, state=1):
    """So many two-way readers of at most so many rows and goings in each, the same ones each time."""
    picked = picker(state)
    for turn in range(number):
        rows = 1 + picked(many)
        yield tuple((picked(3) == 0, tuple((1 - 2 * picked(2), colours[picked(len(colours))], picked(rows))
                                           for go in range(picked(goings + 1)))) for row in range(rows))


def some_readers(colours, many, number, state=1):
    """So many readers of at most so many rows, the same ones each time."""
    picked = picker(state)
    for turn in range(number):
        rows = 1 + picked(many)
        yield tuple((picked(3) == 0, tuple(picked(rows) for colour in colours)) for row in range(rows))
