"""Rows of steps as texts, and read again from them."""

from walktold.errors import BadText

NO_STEPS = "."
SIGNS = {"on": "+", "back": "-"}
WAYS = {"+": "on", "-": "back"}


def show_steps(board, steps):
    """Tell the text of a row of steps."""
    if len(steps) == 0:
        return NO_STEPS
    return " ".join([board[number] + SIGNS[way] for way, number in steps])


def read_steps(board, text):
    """Tell the row of steps of a text, or refuse it with BadText."""
    if text == NO_STEPS:
        return ()
    numbers = {word: number for number, word in enumerate(board)}
    steps = []
    for part in text.split(" "):
        word, sign = part[:-1], part[-1:]
        if word not in numbers or sign not in WAYS:
            raise BadText(0)
        steps.append((WAYS[sign], numbers[word]))
    return tuple(steps)
