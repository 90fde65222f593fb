"""Reading terms and conditions."""

from granary.errors import BadText
from granary.trees import COMPARISONS, is_term


def read_term(words):
    """Takes a term and tells its tree."""
    return rest_of_sum(words, read_product(words))


def read_product(words):
    """Takes a term without + and -, but in brackets."""
    return rest_of_product(words, read_factor(words))


def rest_of_product(words, left):
    """Takes what is multiplied with a term."""
    while words.passes("*"):
        left = ("*", left, read_factor(words))
    return left


def rest_of_sum(words, left):
    """Takes what is added to a term, or taken from it."""
    while words.ahead() in ("+", "-"):
        sign = words.take()
        left = (sign, left, read_product(words))
    return left


def read_factor(words):
    """Takes a number, a field, or a term in brackets."""
    word = words.ahead()
    if word == "(":
        words.enter()
        term = read_term(words)
        end_bracket(words)
        return term
    if word == "-" or word.isdigit():
        return ("num", words.take_number())
    return read_field(words)


def read_field(words):
    """Takes a field, perhaps with its table."""
    name = words.take_name()
    if words.passes("."):
        return ("field", name, words.take_name())
    return ("field", "", name)


def end_bracket(words):
    """Takes the bracket that ends what stands in brackets."""
    words.must(")")
    words.leave()


def read_condition(words):
    """Takes a condition and tells its tree."""
    return rest_of_condition(words, read_part(words))


def rest_of_condition(words, left):
    """Takes the ands and ors behind a condition."""
    left = rest_of_ands(words, left)
    while words.passes("or"):
        left = ("or", left, rest_of_ands(words, read_part(words)))
    return left


def rest_of_ands(words, left):
    """Takes the ands behind a condition."""
    while words.passes("and"):
        left = ("and", left, read_part(words))
    return left


def read_part(words):
    """Takes a condition without and, or, but in brackets."""
    part = read_opening(words)
    if is_term(part):
        return read_comparison(words, part)
    return part


def read_opening(words):
    """Takes a not, a condition in brackets, or a term, behind which a comparison's sign must come.

    A bracket may begin either of both, and only what comes within it tells which.
    """
    if words.ahead() == "not":
        return read_not(words)
    if words.ahead() != "(":
        return read_term(words)
    words.enter()
    inner = read_inner(words)
    end_bracket(words)
    if is_term(inner):
        return rest_of_sum(words, rest_of_product(words, inner))
    return inner


def read_inner(words):
    """Takes what stands in a bracket that may hold a condition or a term."""
    left = read_opening(words)
    if is_term(left):
        if words.ahead() not in COMPARISONS:
            return left
        left = read_comparison(words, left)
    return rest_of_condition(words, left)


def read_not(words):
    """Takes a not and the condition it is of."""
    words.enter()
    part = read_part(words)
    words.leave()
    return ("not", part)


def read_comparison(words, left):
    """Takes a comparison's sign and its right term."""
    if words.ahead() not in COMPARISONS:
        raise BadText(place=words.place)
    sign = words.take()
    return (sign, left, read_term(words))
