"""Lines of texts, and the words and numbers in them."""

from growalong.errors import BadText

MOST_FIGURES = 9
MOST_LETTERS = 8
LETTERS = "abcdefghijklmnopqrstuvwxyz"


def number_in(word):
    """The number that a word tells in at most nine figures, without needless zeros; None if it tells none."""
    if not 1 <= len(word) <= MOST_FIGURES or not word.isascii() or not word.isdigit():
        return None
    if word != "0" and word[0] == "0":
        return None
    return int(word)


def numbers_in(words):
    """The list of the numbers that some words tell; None if one of them tells none."""
    numbers = [number_in(word) for word in words]
    return None if None in numbers else numbers


def lines_in(text):
    """The lines of a text, without the line feeds behind them, and last what stands behind the last line feed."""
    if not isinstance(text, str):
        raise BadText(0)
    return text.split("\n")


def line_of(words):
    """A line of these words and numbers, with its line feed."""
    return " ".join([str(word) for word in words]) + "\n"


def check_end(lines):
    """Raises BadText if something stands behind the last line feed of a text, or there is no line."""
    if lines[-1] != "" or len(lines) == 1:
        raise BadText(len(lines))


def is_name(word):
    """Whether a word is 1 to 8 letters from a to z."""
    return 1 <= len(word) <= MOST_LETTERS and all([letter in LETTERS for letter in word])
