"""Writing terms and conditions."""

from granary.trees import JOINING

# What goes ahead has the greater level.
LEVELS = {
    "or": 1, "and": 2, "not": 3,
    "=": 4, "<": 4, ">": 4, "<=": 4, ">=": 4,
    "+": 5, "-": 5, "*": 6, "num": 7, "field": 7,
}


def tree_text(tree):
    """The text of a term or a condition."""
    # Of several the first ones are innermost, and a text may have many: a loop, no deep recursion.
    behind = []
    level = 0
    while tree[0] in JOINING and LEVELS[tree[0]] >= level:
        sign, left, right = tree
        level = LEVELS[sign]
        behind.append(f" {sign} {part_text(right, level + 1)}")
        tree = left
    return start_text(tree) + "".join(behind[::-1])


def start_text(tree):
    """The text of what a chain of terms or conditions starts with."""
    if tree[0] == "num":
        return str(tree[1])
    if tree[0] == "field":
        return field_text(tree)
    if tree[0] == "not":
        return "not " + part_text(tree[1], LEVELS["not"])
    return f"({tree_text(tree)})"


def part_text(tree, level):
    """The text of a term or a condition, in brackets if its level is less than this."""
    if LEVELS[tree[0]] < level:
        return f"({tree_text(tree)})"
    return tree_text(tree)


def field_text(field):
    """The text of a field, with its table where that is told."""
    _, table, name = field
    if table == "":
        return name
    return f"{table}.{name}"
