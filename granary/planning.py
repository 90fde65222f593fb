"""Plans as texts."""

from granary.errors import BadText
from granary.terms import read_term
from granary.texts import MOST_TABLES, up_to_most
from granary.words import Words
from granary.writing import tree_text

# What is less, or greater, than each number that a text may have: the end that a comparison with the last one leaves.
BEYOND = "1000000"


def plan_text(plan):
    """The text of a plan."""
    return ", ".join([way_text(way) for way in plan])


def way_text(way):
    """The text of one way."""
    kind = way[0]
    table = way[1]
    if kind == "none":
        return f"not from {table}"
    if kind == "key":
        return f"from {table}{ends_text(way[2], way[3])}"
    if kind == "by":
        return f"from {table} by {way[2]}{ends_text(way[3], way[4])}"
    if kind == "keyof":
        return f"from {table} first {tree_text(way[2])}"
    if kind == "byof":
        return f"from {table} by {way[2]} first {tree_text(way[3])}"
    return f"from {table}"


def ends_text(least, greatest):
    """The text of the ends that there are, with the blank ahead of each."""
    text = ""
    if least is not None:
        text += f" least {least}"
    if greatest is not None:
        text += f" most {greatest}"
    return text


def read_plan(text):
    """The plan of a text."""
    words = Words(text)
    plan = up_to_most(words, read_way, MOST_TABLES, ",")
    words.finish()
    return plan


def read_way(words):
    """Takes one way."""
    if words.passes("not"):
        words.must("from")
        return ("none", words.take_name())
    words.must("from")
    table = words.take_name()
    if words.passes("by"):
        return read_way_by(words, table, words.take_name())
    if words.passes("first"):
        return ("keyof", table, read_term(words))
    ends = read_ends(words)
    if ends == (None, None):
        return ("all", table)
    return ("key", table, *ends)


def read_way_by(words, table, field):
    """Takes what stands behind the field of a way by an index."""
    if words.passes("first"):
        return ("byof", table, field, read_term(words))
    ends = read_ends(words)
    if ends == (None, None):
        raise BadText(place=words.place)
    return ("by", table, field, *ends)


def read_ends(words):
    """Takes the ends that come, None for those that don't."""
    least = None
    greatest = None
    if words.passes("least"):
        least = words.take_number(above=BEYOND)
    if words.passes("most"):
        greatest = words.take_number(below=BEYOND)
    return (least, greatest)
