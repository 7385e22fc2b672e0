"""Readers that go one way over a word, and the words that they take."""


def is_reader(colours, reader):
    """Tell whether any tuple of pairs of a truth and a tuple of whole numbers is a reader by these colours."""
    if len(reader) == 0:
        return False
    return all([len(goes) == len(colours) and all([0 <= go < len(reader) for go in goes]) for mark, goes in reader])


def takes(colours, reader, word):
    """Tell whether a reader takes a word of its colours."""
    row = 0
    for colour in word:
        row = reader[row][1][colours.index(colour)]
    return reader[row][0]


def taken_words(colours, reader, length):
    """Tell the list of all words, in order, of at most so many colours that a reader takes."""
    words = []
    front = [("", 0)]
    for number in range(length + 1):
        words.extend([word for word, row in front if reader[row][0]])
        # Colours are rising, so what is made of words in order, each by all colours, is in order again.
        front = [(word + colour, go) for word, row in front for colour, go in zip(colours, reader[row][1])]
    return words
