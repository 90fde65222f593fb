"""Papers of dealings, and whether they follow from what the store held at their moments."""

from granary.bounds import bounds
from granary.doing import flat_way
from granary.errors import BadText
from granary.planning import read_plan
from granary.plans import ways_of
from granary.refusals import TEXT_WORDS, is_dealing_word, looked_up, told_by
from granary.sights import is_wider
from granary.statements import asked_tables, condition_of
from granary.texts import read
from granary.versions import based


def followed(paper, content):
    """(what, the row's number) of the first in a paper that doesn't follow; None if all follows."""
    moment, rows, seen, writes = paper
    reader = Reader(based(moment, content), seen)
    for number, row in enumerate(rows):
        wrong = reader.wrong_in(row)
        if wrong != "":
            return (wrong, number)
    if reader.dealing.writes() != writes:
        return ("writes", len(rows))
    return None


class Reader:
    """Goes through the rows of a paper, doing again what they tell of."""

    def __init__(self, store, seen):
        self.store = store
        self.seen = seen
        self.dealing = store.opened()
        self.within = False

    def wrong_in(self, row):
        """What doesn't follow in the next row of the paper, an empty text if all does."""
        text, answer, plan_told = row
        tree, word = looked_up(text, self.dealing.shapes(), self.dealing.indexed(), self.within)
        if is_undo(text) or word != refused_word(answer):
            return "text"
        if word != "":
            return "" if plan_told == "" else "plan"
        plan = self.plan_of(tree, plan_told)
        if plan is None:
            return "plan"
        if not all([self.is_seen(table, told) for table, told in sights_of(tree, self.dealing.shapes())]):
            return "saw"
        return "" if self.done(tree, plan) == answer else "answer"

    def plan_of(self, tree, text):
        """The plan that a text tells, None if it is none of a statement's."""
        if asked_tables(tree) == ():
            return () if text == "" else None
        try:
            plan = read_plan(text)
        except BadText:
            return None
        shapes = self.dealing.shapes()
        # A dealing's own indexes weren't there at its moment to go by.
        indexes = self.store.indexed(self.dealing.number)
        return plan if is_plan(plan, asked_tables(tree), condition_of(tree), shapes, indexes) else None

    def is_seen(self, table, told):
        """Whether the paper tells that it saw a table within bounds, or wider ones."""
        return told is None or any([other == table and is_wider(wide, told) for other, wide in self.seen])

    def done(self, tree, plan):
        """What a statement tells, done by a plan."""
        if is_dealing_word(tree):
            self.within = tree[0] == "begin"
            return ("told", 0)
        return told_by(tree, plan, self.dealing)


def is_undo(text):
    """Whether a text is an undo, in its place or not."""
    try:
        return read(text) == ("undo",)
    except BadText:
        return False


def refused_word(answer):
    """The word by which an answer refuses a statement for its text, names, row or place; else an empty one."""
    if answer[0] == "refused" and answer[1] in TEXT_WORDS:
        return answer[1]
    return ""


def is_plan(plan, tables, cond, shapes, indexes):
    """Whether a plan is one of tables and a condition, looked at way by way."""
    order = [way[1] for way in plan]
    if sorted(order) != sorted(tables):
        return False
    for at, way in enumerate(plan):
        ways = ways_of(way[1], order[:at], cond, shapes, indexes)
        # As texts: a term may be too deep to be compared as a tree.
        if flat_way(way) not in [flat_way(one) for one in ways]:
            return False
    return True


def sights_of(tree, shapes):
    """(table, bounds) of all that a statement notes that it saw, None for nothing."""
    if tree[0] == "put":
        _, table, row = tree
        return [(table, {shapes[table][0]: (row[0], row[0])})]
    return [(table, bounds(condition_of(tree), table)) for table in asked_tables(tree)]
