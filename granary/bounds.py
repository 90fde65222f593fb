"""What a condition says of a table's fields."""

from granary.trees import COMPARISONS
from granary.worths import is_so

# The sign that says the same of two sides the other way about.
TURNED = {"=": "=", "<": ">", ">": "<", "<=": ">=", ">=": "<="}


def bounds(cond, table):
    """{field: (least, greatest)}, None for no end; None alone if nothing can fulfil the condition."""
    told = {}
    for sign, left, right in musts(cond):
        if left[0] == "num" and right[0] == "num":
            if not is_so(sign, left[1], right[1]):
                return None
        elif is_of(left, table) and right[0] == "num":
            narrow(told, left[2], ends(sign, right[1]))
        elif left[0] == "num" and is_of(right, table):
            narrow(told, right[2], ends(TURNED[sign], left[1]))
    if any([is_crossed(least, greatest) for least, greatest in told.values()]):
        return None
    return told


def musts(cond):
    """The comparisons of a condition, or None, that must be true by ands alone, in turn."""
    found = []
    waiting = [] if cond is None else [cond]
    while waiting != []:
        tree = waiting.pop()
        if tree[0] == "and":
            waiting.append(tree[2])
            waiting.append(tree[1])
        elif tree[0] in COMPARISONS:
            found.append(tree)
    return found


def is_of(term, table):
    """Whether a term is a field of a table, alone."""
    return term[0] == "field" and term[1] == table


def ends(sign, number):
    """The least and the greatest worth that stand so to a number."""
    if sign == "=":
        return (number, number)
    if sign == "<":
        return (None, number - 1)
    if sign == ">":
        return (number + 1, None)
    if sign == "<=":
        return (None, number)
    return (number, None)


def narrow(told, field, both):
    """Lets what is told of a field have these ends too."""
    if field not in told:
        told[field] = both
        return
    least, greatest = told[field]
    told[field] = (greater(least, both[0]), lesser(greatest, both[1]))


def greater(one, other):
    """The greater one of two leasts."""
    if one is None or other is None:
        return other if one is None else one
    return max(one, other)


def lesser(one, other):
    """The lesser one of two greatests."""
    if one is None or other is None:
        return other if one is None else one
    return min(one, other)


def is_crossed(least, greatest):
    """Whether a least is beyond its greatest."""
    return least is not None and greatest is not None and least > greatest
