"""Copies of values, so that what is kept and what is told may be changed apart."""


def copied(value):
    """The same value, all lists, tuples and dicts in it apart from it."""
    if isinstance(value, list):
        return [copied(part) for part in value]
    if isinstance(value, tuple):
        return tuple([copied(part) for part in value])
    if isinstance(value, dict):
        return {key: copied(value[key]) for key in value}
    return value


def fixed(value):
    """The same value with tuples in the place of all lists."""
    if isinstance(value, (list, tuple)):
        return tuple([fixed(part) for part in value])
    return value
