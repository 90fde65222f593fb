"""What lies within bounds."""

from granary.bounds import is_crossed


def is_in(row, fields, bounds):
    """Whether a row of such fields, or None, lies within bounds."""
    if row is None or bounds is None:
        return False
    for at, field in enumerate(fields):
        if field in bounds and not is_between(row[at], bounds[field][0], bounds[field][1]):
            return False
    return True


def is_between(number, low, high):
    """Whether a number is from one on up to another, None for no bound."""
    return (low is None or number >= low) and (high is None or number <= high)


def is_wider(one, other):
    """Whether some bounds let by all that others do."""
    if lets_none(other):
        return True
    if one is None:
        return False
    return all([holds(one[field], other.get(field, (None, None))) for field in one])


def lets_none(bounds):
    """Whether bounds let by nothing at all."""
    return bounds is None or any([is_crossed(least, greatest) for least, greatest in bounds.values()])


def holds(one, other):
    """Whether the ends of a field let by all that other ends do."""
    if one[0] is not None and (other[0] is None or other[0] < one[0]):
        return False
    return one[1] is None or (other[1] is not None and other[1] <= one[1])
