"""The plans of a question, and what they cost."""

from itertools import permutations

from granary.bounds import bounds, is_of, musts
from granary.trees import JOINING


def all_plans(tables, cond, shapes, indexes):
    """All plans of tables and a condition."""
    plans = []
    for order in permutations(tables):
        plans.extend(plans_in_order(order, cond, shapes, indexes))
    return plans


def plans_in_order(order, cond, shapes, indexes):
    """All plans that come to tables in one order, the ways of the first one turning slowest."""
    plans = [()]
    for at, table in enumerate(order):
        ways = ways_of(table, order[:at], cond, shapes, indexes)
        plans = [(*plan, way) for plan in plans for way in ways]
    return plans


def ways_of(table, ahead, cond, shapes, indexes):
    """All ways to the rows of a table, behind those ahead."""
    told = bounds(cond, table)
    if told is None:
        return [("none", table)]
    key = shapes[table][0]
    indexed = [field for field in shapes[table][1:] if (table, field) in indexes]
    ways = [("all", table)]
    if key in told:
        least, greatest = told[key]
        ways.append(("key", table, least, greatest))
    ways += [("by", table, field, told[field][0], told[field][1]) for field in indexed if field in told]
    for sign, left, right in musts(cond):
        if sign == "=" and is_way(left, right, table, ahead, [key, *indexed]):
            ways.append(way_of(left, right, key))
        elif sign == "=" and is_way(right, left, table, ahead, [key, *indexed]):
            ways.append(way_of(right, left, key))
    return ways


def is_way(one, other, table, ahead, fields):
    """Whether one side is one of these fields of a table, and the other a term of tables ahead alone."""
    if not is_of(one, table) or one[2] not in fields:
        return False
    tables = tables_in(other)
    return tables != [] and all([name in ahead for name in tables])


def way_of(field, term, key):
    """The way to a table's rows by a term that one of its fields must be."""
    _, table, name = field
    if name == key:
        return ("keyof", table, term)
    return ("byof", table, name, term)


def tables_in(term):
    """The tables of all fields in a term."""
    tables = []
    waiting = [term]
    while waiting != []:
        tree = waiting.pop()
        if tree[0] == "field":
            tables.append(tree[1])
        elif tree[0] in JOINING:
            waiting.append(tree[1])
            waiting.append(tree[2])
    return tables


def cost(plan, counts):
    """What a plan is taken to cost, by how many rows the tables have."""
    total = 0
    choices = 1
    for way in plan:
        choices = choices * rows_expected(way, counts[way[1]])
        total += choices
    return total


def rows_expected(way, many):
    """How many rows are taken to come of a way to a table of so many."""
    kind = way[0]
    if kind == "all":
        return many
    if kind == "key":
        return rows_between(way[2], way[3], many)
    if kind == "by":
        return min(rows_between(way[3], way[4], many) + 1, many)
    if kind == "keyof":
        return min(1, many)
    if kind == "byof":
        return (many + 3) // 4
    return 0


def rows_between(least, greatest, many):
    """How many rows of so many are taken to be within two ends, or one, or none."""
    if least is None and greatest is None:
        return many
    if least is None or greatest is None:
        return (many + 2) // 3
    return min(max(0, greatest - least + 1), many)


def best(tables, cond, shapes, indexes, counts):
    """The first plan of those that cost least."""
    return min(all_plans(tables, cond, shapes, indexes), key=lambda plan: cost(plan, counts))
