"""A desk that keeps a board and is asked with rows."""

from walktold.boards import lean
from walktold.counts import how_many
from walktold.errors import NoRow, TooMany
from walktold.helping import helping
from walktold.readers import reader
from walktold.steps import steps_of
from walktold.steptexts import show_steps
from walktold.texts import read_number, show_board
from walktold.whole import first_open
from walktold.words import is_word
from walktold.zigzags import zigzag

MOST_WORDS = 6
MOST_COLOURS_UP = 6
MOST_COLOURS = 12
MOST_NUMBER = 30
MOST_ASKED = 3
MOST_ROWS = 60
# Readers are asked of lesser boards alone.
MOST_WORDS_READ = 4
MOST_COLOURS_READ = 4


def put_up(board, words):
    """Tell the board with one more word, and how many there are."""
    word = asked_word(words[0])
    if len(board) >= MOST_WORDS or len(word) > MOST_COLOURS_UP or word in board:
        raise NoRow()
    return (board + (word,), f"up {len(board) + 1}")


def take_down(board, words):
    """Tell the board without a word, and how many there are."""
    word = asked_word(words[0])
    if word not in board:
        raise NoRow()
    return (tuple([one for one in board if one != word]), f"up {len(board) - 1}")


def tell_fixes(board, words):
    """Tell the board, and by which steps it fixes a word or which word helps."""
    word = asked_word(words[0])
    places = zigzag(board, word)
    if places is None:
        return (board, f"no {helping(board, word)}")
    return (board, f"yes {show_steps(board, steps_of(board, word, places))}")


def tell_lean(board, words):
    """Tell the lean board, which is kept, and its text."""
    kept = lean(board)
    return (kept, show_board(kept))


def tell_board(board, words):
    """Tell the board and its text."""
    return (board, show_board(board))


def tell_reader(board, words):
    """Tell the board, and how many rows its reader has."""
    colours = asked_colours(board, words[0])
    try:
        return (board, str(len(reader(board, colours, MOST_ROWS))))
    except TooMany:
        return (board, "many")


def tell_first(board, words):
    """Tell the board, and the first word that it doesn't fix."""
    colours = asked_colours(board, words[0])
    try:
        word = first_open(board, colours, MOST_ROWS)
    except TooMany:
        return (board, "many")
    return (board, "none" if word is None else word)


def tell_count(board, words):
    """Tell the board, and how many words of so many colours it fixes."""
    number = asked_number(words[0])
    colours = asked_colours(board, words[1])
    try:
        return (board, str(how_many(colours, reader(board, colours, MOST_ROWS), number)))
    except TooMany:
        return (board, "many")


def asked_word(text):
    """Tell a text that is a word with a colour at least, or refuse."""
    if not 1 <= len(text) <= MOST_COLOURS or not is_word(text):
        raise NoRow()
    return text


def asked_number(text):
    """Tell the number of a text, or refuse."""
    number = read_number(text)
    if number is None or number > MOST_NUMBER:
        raise NoRow()
    return number


def asked_colours(board, text):
    """Tell a text that is some colours, rising, where the board's reader may be asked, or refuse."""
    if not 1 <= len(text) <= MOST_ASKED or not is_word(text) or sorted(set(text)) != list(text):
        raise NoRow()
    if len(board) > MOST_WORDS_READ or any([len(word) > MOST_COLOURS_READ for word in board]):
        raise NoRow()
    return text


# For a row's first word, and how many follow it, what is done.
DEEDS = {
    ("put", 1): put_up,
    ("take", 1): take_down,
    ("fixes", 1): tell_fixes,
    ("lean", 0): tell_lean,
    ("board", 0): tell_board,
    ("reader", 1): tell_reader,
    ("first", 1): tell_first,
    ("count", 2): tell_count,
}


class Desk:
    """A desk: it keeps a board, at first the one without words."""

    def __init__(self):
        self.board = ()

    def say(self, row):
        """Tell the answer to a row, or refuse it with NoRow; what is refused changes nothing."""
        first, *words = row.split(" ")
        key = (first, len(words))
        if key not in DEEDS:
            raise NoRow()
        deed = DEEDS[key]
        board, answer = deed(self.board, words)
        self.board = board
        return answer
