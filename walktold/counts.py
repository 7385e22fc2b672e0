"""How many words a reader takes."""


def how_many(colours, reader, number):
    """Tell how many words of just so many colours a reader takes."""
    # Ways are counted row by row, since words may be too many to be tried.
    ways = {0: 1}
    for turn in range(number):
        ways = ways_on(reader, ways)
    return sum([many for row, many in ways.items() if reader[row][0]])


def ways_on(reader, ways):
    """Tell for each row how many ways lead to it by one more colour."""
    told = {}
    for row, many in ways.items():
        for go in reader[row][1]:
            told[go] = told.get(go, 0) + many
    return told
