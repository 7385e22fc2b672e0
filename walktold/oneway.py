"""Two-way readers made one-way."""

from walktold.ends import ends_on, first_ends
from walktold.least import least_within
from walktold.numbering import numbered


def one_way(colours, two, most=60):
    """Tell the least reader that takes just the words that a two-way reader takes, or refuse with TooMany."""
    # Words that have the same ends go on alike, so ends are all that need be known of what has been read.
    def row_of(ends):
        return (any([two[row][0] for row in ends[0]]), [ends_on(two, ends, colour) for colour in colours])

    return least_within(colours, numbered(first_ends(two), row_of), most)
