"""The names in a statement: whether they are there, and whose fields they are."""

from granary.errors import BadName, BadRow
from granary.trees import JOINING


def checked(tree, shapes, indexes=()):
    """The tree with all fields' tables filled in."""
    kind = tree[0]
    if kind == "table":
        check_table(tree, shapes)
    elif kind == "index":
        check_index(tree, shapes, indexes)
    elif kind == "put":
        check_put(tree, shapes)
    elif kind == "set":
        return checked_set(tree, shapes)
    elif kind == "strike":
        return checked_strike(tree, shapes)
    elif kind == "ask":
        return checked_ask(tree, shapes)
    return tree


def check_table(tree, shapes):
    """Refuses a table that is there, and a field told twice."""
    _, name, fields = tree
    if name in shapes:
        raise BadName(word=name)
    for at, field in enumerate(fields):
        if field in fields[:at]:
            raise BadName(word=field)


def check_index(tree, shapes, indexes):
    """Refuses an index of a field that isn't there, is the key, or has one."""
    _, name, field = tree
    check_there(name, shapes)
    check_no_key(field, shapes[name])
    if (name, field) in indexes:
        raise BadName(word=field)


def check_there(name, shapes):
    """Refuses a table that isn't there."""
    if name not in shapes:
        raise BadName(word=name)


def check_no_key(field, fields):
    """Refuses what is no field, or the key."""
    if field not in fields or field == fields[0]:
        raise BadName(word=field)


def check_put(tree, shapes):
    """Refuses a table that isn't there, and a row of another count of numbers."""
    _, name, numbers = tree
    check_there(name, shapes)
    if len(numbers) != len(shapes[name]):
        raise BadRow()


def checked_set(tree, shapes):
    """The tree of a set, all fields' tables filled in."""
    _, name, settings, condition = tree
    check_there(name, shapes)
    told = []
    names = []
    for field, term in settings:
        check_no_key(field, shapes[name])
        if field in names:
            raise BadName(word=field)
        names.append(field)
        told.append((field, filled(term, shapes, (name,))))
    return ("set", name, tuple(told), filled_where(condition, shapes, (name,)))


def checked_strike(tree, shapes):
    """The tree of a strike, all fields' tables filled in."""
    _, name, condition = tree
    check_there(name, shapes)
    return ("strike", name, filled_where(condition, shapes, (name,)))


def checked_ask(tree, shapes):
    """The tree of a question, all fields' tables filled in."""
    _, how, terms, tables, condition, by, first = tree
    check_asked(tables, shapes)
    terms = filled_all(terms, shapes, tables)
    condition = filled_where(condition, shapes, tables)
    by = filled_all(by, shapes, tables)
    return ("ask", how, terms, tables, condition, by, first)


def check_asked(tables, shapes):
    """Refuses an asked table that isn't there, or is asked twice."""
    for at, name in enumerate(tables):
        check_there(name, shapes)
        if name in tables[:at]:
            raise BadName(word=name)


def filled_all(terms, shapes, tables):
    """Several terms, all fields' tables filled in."""
    return tuple([filled(term, shapes, tables) for term in terms])


def filled_where(condition, shapes, tables):
    """A condition, or None, all fields' tables filled in."""
    if condition is None:
        return None
    return filled(condition, shapes, tables)


def filled(tree, shapes, tables):
    """A term or a condition, all fields' tables filled in."""
    # Of several the first ones are innermost, and a text may have many: a loop, no deep recursion.
    joined = []
    while tree[0] in JOINING:
        joined.append(tree)
        tree = tree[1]
    told = filled_start(tree, shapes, tables)
    for sign, _, right in joined[::-1]:
        told = (sign, told, filled(right, shapes, tables))
    return told


def filled_start(tree, shapes, tables):
    """What a chain of terms or conditions starts with, its fields' tables filled in."""
    if tree[0] == "not":
        return ("not", filled(tree[1], shapes, tables))
    if tree[0] == "field":
        return filled_field(tree, shapes, tables)
    return tree


def filled_field(tree, shapes, tables):
    """A field with its table."""
    _, table, name = tree
    if table == "":
        return ("field", only_table(name, shapes, tables), name)
    if table not in tables:
        raise BadName(word=table)
    if name not in shapes[table]:
        raise BadName(word=name)
    return tree


def only_table(field, shapes, tables):
    """The one asked table that has a field."""
    owners = [table for table in tables if field in shapes[table]]
    if len(owners) != 1:
        raise BadName(word=field)
    return owners[0]
