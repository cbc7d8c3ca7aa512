"""Lines of texts, and the words and numbers in them."""

from growalong.errors import BadText

MOST_FIGURES = 9


def number_in(word):
    """The number that a word tells in at most nine figures, without needless zeros; None if it tells none."""
    if not 1 <= len(word) <= MOST_FIGURES or not word.isascii() or not word.isdigit():
        return None
    if word != "0" and word[0] == "0":
        return None
    return int(word)


def numbers_in(words):
    """The list of the numbers that some words tell; None if one of them tells none."""
    numbers = [number_in(word) for word in words]
    return None if None in numbers else numbers


def lines_in(text):
    """The lines of a text, without the line feeds behind them, and last what stands behind the last line feed."""
    if not isinstance(text, str):
        raise BadText(0)
    return text.split("\n")


def line_of(words):
    """A line of these words and numbers, with its line feed."""
    return " ".join([str(word) for word in words]) + "\n"
