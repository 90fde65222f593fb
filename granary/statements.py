"""Statements, done on a dealing."""

from granary.bounds import bounds
from granary.doing import answer, choices
from granary.errors import BadPlan, TooGreat
from granary.names import checked
from granary.plans import best
from granary.worths import field_places, worth

GREATEST = 999999


def done_on(tree, dealing):
    """Does a statement, but begin, done and undo, on a dealing, by the best plan, and tells what it tells."""
    indexes = dealing.indexed()
    tree = checked(tree, dealing.shapes(), indexes)
    try:
        return done_by(tree, best_plan(tree, indexes, dealing), dealing)
    except BadPlan:
        # An index that the dealing itself made is told, but wasn't there at its moment to go by.
        return done_by(tree, best_plan(tree, [], dealing), dealing)


def best_plan(tree, indexes, dealing):
    """The best plan of a checked question, set or strike, by such indexes; none of others."""
    tables = asked_tables(tree)
    if tables == ():
        return ()
    counts = {table: dealing.count(table) for table in tables}
    return best(tables, condition_of(tree), dealing.shapes(), indexes, counts)


def asked_tables(tree):
    """The tables whose rows a statement looks at by a plan."""
    if tree[0] == "ask":
        return tree[3]
    if tree[0] in ("set", "strike"):
        return (tree[1],)
    return ()


def condition_of(tree):
    """The condition of a question, a set or a strike."""
    if tree[0] == "ask":
        return tree[4]
    return tree[-1]


def done_by(tree, plan, dealing):
    """Does a checked statement, a question, set or strike by a plan, and tells what it tells."""
    for table in asked_tables(tree):
        dealing.saw(table, bounds(condition_of(tree), table))
    kind = tree[0]
    if kind == "ask":
        return answer(tree, plan, dealing.shapes(), dealing)
    if kind == "set":
        return set_rows(tree, plan, dealing)
    if kind == "strike":
        return strike_rows(tree, plan, dealing)
    if kind == "put":
        dealing.put(tree[1], tree[2])
        return 1
    dealing.make(tree)
    return 0


def met_rows(tree, plan, dealing):
    """The rows that fulfil the condition of a set or a strike."""
    table = tree[1]
    return [rows[table] for rows in choices(plan, (table,), condition_of(tree), dealing.shapes(), dealing)]


def set_rows(tree, plan, dealing):
    """Sets fields of all rows that fulfil the condition, all at once, and tells how many rows."""
    table = tree[1]
    places = field_places((table,), dealing.shapes())
    changed = [changed_row(row, table, tree[2], places) for row in met_rows(tree, plan, dealing)]
    for row in changed:
        dealing.change(table, row)
    return len(changed)


def changed_row(row, table, settings, places):
    """A row with fields set, all by the row as it was."""
    numbers = list(row)
    for field, term in settings:
        number = worth(term, {table: row}, places)
        if abs(number) > GREATEST:
            raise TooGreat()
        numbers[places[(table, field)]] = number
    return tuple(numbers)


def strike_rows(tree, plan, dealing):
    """Strikes all rows that fulfil the condition, and tells how many."""
    table = tree[1]
    struck = met_rows(tree, plan, dealing)
    for row in struck:
        dealing.strike(table, row[0])
    return len(struck)
