"""What the trees of terms and conditions are made of."""

COMPARISONS = ("=", "<", ">", "<=", ">=")
# A tree of one of these is made of two others; the rest are num, field and not.
JOINING = ("or", "and", "=", "<", ">", "<=", ">=", "+", "-", "*")
TERM_KINDS = ("num", "field", "+", "-", "*")


def is_term(tree):
    """Whether a tree is a term's, not a condition's."""
    return tree[0] in TERM_KINDS
