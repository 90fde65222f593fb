"""Reading and writing statements."""

from granary.errors import BadText
from granary.terms import read_condition, read_term
from granary.words import Words, read_name, read_number
from granary.writing import tree_text

ASKS = ("pick", "count", "sum", "least", "most")
DEALING_WORDS = ("begin", "done", "undo")
MOST_FIELDS = 4
MOST_SETTINGS = 3
MOST_TERMS = 6
MOST_TABLES = 3
MOST_BY = 3


def read(text):
    """The tree of a statement's text."""
    words = Words(text)
    tree = read_statement(words)
    words.finish()
    return tree


def read_statement(words):
    """Takes a statement and tells its tree."""
    word = words.ahead()
    if word in ASKS:
        return read_ask(words)
    if word in DEALING_WORDS:
        return (words.take(),)
    if word not in READERS:
        raise BadText(place=words.place)
    words.take()
    reader = READERS[word]
    return reader(words)


def read_table(words):
    """Takes what stands behind table."""
    name = words.take_name()
    return ("table", name, up_to_end(words, read_name))


def read_index(words):
    """Takes what stands behind index."""
    name = words.take_name()
    return ("index", name, words.take_name())


def read_put(words):
    """Takes what stands behind put."""
    name = words.take_name()
    return ("put", name, up_to_end(words, read_number))


def read_set(words):
    """Takes what stands behind set."""
    name = words.take_name()
    settings = up_to_most(words, read_setting, MOST_SETTINGS, ",")
    return ("set", name, settings, read_where(words))


def read_strike(words):
    """Takes what stands behind strike."""
    name = words.take_name()
    return ("strike", name, read_where(words))


READERS = {
    "table": read_table, "index": read_index, "put": read_put, "set": read_set, "strike": read_strike,
}


def read_ask(words):
    """Takes a question."""
    how = words.take()
    terms = read_asked(words, how)
    words.must("from")
    tables = up_to_most(words, read_name, MOST_TABLES, "and")
    condition = read_where(words)
    by = ()
    first = None
    if how == "pick":
        by = read_by(words)
        first = read_first(words)
    return ("ask", how, terms, tables, condition, by, first)


def read_asked(words, how):
    """Takes the terms that a question asks for."""
    if how == "count":
        return ()
    if how == "pick":
        return up_to_most(words, read_term, MOST_TERMS, ",")
    return (read_term(words),)


def read_where(words):
    """Takes where and its condition, if they come."""
    if words.passes("where"):
        return read_condition(words)
    return None


def read_by(words):
    """Takes by and its terms, if they come."""
    if words.passes("by"):
        return up_to_most(words, read_term, MOST_BY, ",")
    return ()


def read_first(words):
    """Takes first and its number, if they come."""
    if words.passes("first"):
        return words.take_plain_number()
    return None


def read_setting(words):
    """Takes a field that is set and its term."""
    field = words.take_name()
    words.must("=")
    return (field, read_term(words))


def up_to_end(words, read_one):
    """Takes one or more parts, as many as a row may have, with nothing between."""
    parts = [read_one(words)]
    while len(parts) < MOST_FIELDS and not words.ended():
        parts.append(read_one(words))
    return tuple(parts)


def up_to_most(words, read_one, most, sign):
    """Takes one or more parts, at most so many, with a word between."""
    parts = [read_one(words)]
    while len(parts) < most and words.passes(sign):
        parts.append(read_one(words))
    return tuple(parts)


def written(tree):
    """The text of a statement's tree."""
    kind = tree[0]
    if kind == "table":
        return f"table {tree[1]} " + " ".join(tree[2])
    if kind == "put":
        return f"put {tree[1]} " + " ".join([str(number) for number in tree[2]])
    if kind == "set":
        return written_set(tree)
    if kind == "strike":
        return f"strike {tree[1]}{where_text(tree[2])}"
    if kind == "ask":
        return written_ask(tree)
    return " ".join(tree)


def written_set(tree):
    """The text of the tree of a set."""
    _, name, settings, condition = tree
    texts = [f"{field} = {tree_text(term)}" for field, term in settings]
    return f"set {name} " + ", ".join(texts) + where_text(condition)


def written_ask(tree):
    """The text of the tree of a question."""
    _, how, terms, tables, condition, by, first = tree
    text = how
    if terms != ():
        text += " " + terms_text(terms)
    text += " from " + " and ".join(tables) + where_text(condition)
    if by != ():
        text += " by " + terms_text(by)
    if first is not None:
        text += f" first {first}"
    return text


def terms_text(terms):
    """The text of several terms."""
    return ", ".join([tree_text(term) for term in terms])


def where_text(condition):
    """The text of where and its condition, if there is one, with the blank ahead of it."""
    if condition is None:
        return ""
    return " where " + tree_text(condition)
