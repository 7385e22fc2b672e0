"""Words of colours, and boards of words."""

from walktold.errors import NoBoard


def is_word(text):
    """Tell whether a text is made of colours alone, perhaps of none."""
    return all(["a" <= sign <= "z" for sign in text])


def is_colour(text):
    """Tell whether a text is just one colour."""
    return len(text) == 1 and is_word(text)


def look_board(board):
    """Tell True of a board; any other tuple of texts is refused with NoBoard."""
    seen = set()
    for at, word in enumerate(board):
        if word == "" or not is_word(word) or word in seen:
            raise NoBoard(at)
        seen.add(word)
    return True
