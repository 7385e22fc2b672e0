"""Walktold: words of coloured streets worked out from other words' tables alone."""
