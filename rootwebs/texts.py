"""Webs written as texts, and read again."""

from rootwebs.errors import NoText
from rootwebs.webs import is_many, is_ties

FIGURES = "0123456789"
MOST_FIGURES = 20


def is_number(word):
    """Whether it is a number in figures, without a nought ahead but for 0 itself."""
    if not 1 <= len(word) <= MOST_FIGURES or not all([sign in FIGURES for sign in word]):
        return False
    return word == "0" or word[0] != "0"


def numbers_behind(word, many, row):
    """The tuple of the numbers in a row that has the word and so many numbers behind it, one blank
    between each two; None of a row that is not so written.
    """
    words = row.split(" ")
    if len(words) != many + 1 or words[0] != word or not all([is_number(one) for one in words[1:]]):
        return None
    return tuple([int(one) for one in words[1:]])


def web_shown(web):
    """The text of a web [10.1]."""
    many, ties = web
    return "\n".join([f"web {many} {len(ties)}"] + [f"tie {a} {b}" for a, b in ties])


def web_read(text):
    """The web that a text writes, or NoText [10.1]."""
    if not isinstance(text, str):
        raise NoText(0)
    rows = text.split("\n")
    head = numbers_behind("web", 2, rows[0])
    if head is None or not is_many(head[0]):
        raise NoText(1)
    many, due = head
    ties = ()
    for at, row in enumerate(rows[1:]):
        tie = numbers_behind("tie", 2, row)
        # The first of these rows is the second one of the text, and rows are counted from 1 on.
        if at == due or tie is None or not is_ties(many, ties + (tie,)):
            raise NoText(at + 2)
        ties = ties + (tie,)
    if len(ties) < due:
        raise NoText(len(rows) + 1)
    return (many, ties)
