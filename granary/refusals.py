"""Statements done or refused, told as ("told", answer) or ("refused", word)."""

from granary.errors import BadName, BadRow, BadText, TooGreat, Twice
from granary.names import checked
from granary.statements import done_by
from granary.texts import DEALING_WORDS, read

# The words of those refusals that a statement's text, its names, its row or its place tell of.
TEXT_WORDS = ("BadText", "BadName", "BadRow", "Within")
NOT_WITHIN = ("begin", "table", "index")
JUST_WITHIN = ("done", "undo")


def looked_up(text, shapes, indexes, within):
    """(a statement's tree, its fields' tables filled in, an empty word), or (None, the word that refuses it)."""
    try:
        tree = checked(read(text), shapes, indexes)
    except BadText:
        return (None, "BadText")
    except BadName:
        return (None, "BadName")
    except BadRow:
        return (None, "BadRow")
    if tree[0] in (NOT_WITHIN if within else JUST_WITHIN):
        return (None, "Within")
    return (tree, "")


def is_dealing_word(tree):
    """Whether a statement is begin, done or undo."""
    return tree[0] in DEALING_WORDS


def told_by(tree, plan, dealing):
    """What a statement that was looked up tells, done by a plan on a dealing, or how that refuses it."""
    try:
        return ("told", done_by(tree, plan, dealing))
    except Twice:
        return ("refused", "Twice")
    except TooGreat:
        return ("refused", "TooGreat")
