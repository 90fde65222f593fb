"""What terms come to, and whether conditions are fulfilled, by chosen rows."""

from granary.trees import JOINING


def field_places(tables, shapes):
    """The place in its row of each field of some tables, by table and field."""
    return {(table, field): at for table in tables for at, field in enumerate(shapes[table])}


def worth(tree, rows, places):
    """What a term comes to, or whether a condition is fulfilled, by one row of each table."""
    # Of several the first ones are innermost, and a text may have many: a loop, no deep recursion.
    joined = []
    while tree[0] in JOINING:
        joined.append(tree)
        tree = tree[1]
    told = start_worth(tree, rows, places)
    for sign, _, right in joined[::-1]:
        told = joined_worth(sign, told, worth(right, rows, places))
    return told


def start_worth(tree, rows, places):
    """What a chain of terms or conditions starts with comes to."""
    if tree[0] == "num":
        return tree[1]
    if tree[0] == "field":
        _, table, name = tree
        return rows[table][places[(table, name)]]
    return not worth(tree[1], rows, places)


def joined_worth(sign, one, other):
    """What two terms or conditions come to by the sign or word between."""
    if sign == "+":
        return one + other
    if sign == "-":
        return one - other
    if sign == "*":
        return one * other
    if sign == "and":
        return one and other
    if sign == "or":
        return one or other
    return is_so(sign, one, other)


def is_so(sign, one, other):
    """Whether a comparison of two numbers is true."""
    if sign == "=":
        return one == other
    if sign == "<":
        return one < other
    if sign == ">":
        return one > other
    if sign == "<=":
        return one <= other
    return one >= other
