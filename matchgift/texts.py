"""Texts: how numbers, names, rows and plans are written and read."""

from matchgift.errors import NoText
from matchgift.rows import MOST_PLACES, is_row

FIGURES = "0123456789"
MOST_FIGURES = 30
SMALL_LETTERS = "abcdefghijklmnopqrstuvwxyz"
MOST_LETTERS = 8


def is_of_signs(text, signs):
    """Whether the text has no sign but these."""
    return all([sign in signs for sign in text])


def is_name(thing):
    """Whether it is a name, of anything: a text of one to eight small letters."""
    return isinstance(thing, str) and 1 <= len(thing) <= MOST_LETTERS and is_of_signs(thing, SMALL_LETTERS)


def is_number(text):
    """Whether the text is a number of at most thirty figures, no 0 ahead but in 0."""
    if not 1 <= len(text) <= MOST_FIGURES or not is_of_signs(text, FIGURES):
        return False
    return text == "0" or text[0] != "0"


def read_number(text):
    """The number that is so written; NoText where none is."""
    if not is_number(text):
        raise NoText("this is no number as it is written here")
    return int(text)


def words_of(text):
    """The words of a text, parted by one blank each; NoText of what is no text."""
    # Two blanks together, or one at an end, make an empty word, which is written nowhere.
    if not isinstance(text, str):
        raise NoText("this is no text")
    return text.split(" ")


def show_row(row):
    """The row as it is written."""
    return " ".join([str(amount) for amount in row])


def show_run(run):
    """The run as it is written."""
    i, j, k = run
    return f"{i}>{j}*{k}"


def show_plan(plan):
    """The plan as it is written."""
    if not plan:
        return "-"
    return " ".join([show_run(run) for run in plan])


def read_row(text):
    """The row that is just so written; NoText where none is, of anything."""
    row = tuple([read_number(word) for word in words_of(text)])
    if not is_row(row):
        raise NoText("these numbers are no row")
    return row


def read_run(word):
    """The run that is just so written; NoText where none is."""
    # Where a sign is missing, what should stand behind it is empty and no number.
    ahead, star, many = word.partition("*")
    giver, arrow, taker = ahead.partition(">")
    i, j, k = read_number(giver), read_number(taker), read_number(many)
    if i == j or i >= MOST_PLACES or j >= MOST_PLACES:
        raise NoText("these are no two places")
    return (i, j, k)


def read_plan(text):
    """The plan that is just so written; NoText where none is, of anything."""
    words = words_of(text)
    if words == ["-"]:
        return ()
    return tuple([read_run(word) for word in words])
