"""Tables worked out by rows of steps, from a number of rooms and other tables alone."""

from walktold.tables import every, over


def worked_out(many, tables, steps):
    """Tell the table at the end of a row of steps."""
    told = tuple([(room, room) for room in range(many)])
    for way, number in steps:
        if way == "on":
            told = over(told, tables[number])
        else:
            told = every(many, told, tables[number])
    return told
