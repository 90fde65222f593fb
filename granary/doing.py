"""What a question tells, by a plan."""

from granary.errors import BadPlan
from granary.names import checked
from granary.plans import all_plans
from granary.worths import field_places, worth
from granary.writing import tree_text


class Walk:
    """Going the ways of a plan, through a view; found are the choices that fulfil a condition.

    A choice is a dict of one row of each table; told counts the rows that all ways told, as often as they were gone.
    """

    def __init__(self, plan, condition, places, view):
        self.plan = plan
        self.condition = condition
        self.places = places
        self.view = view
        self.found = []
        self.told = 0

    def go(self, rows):
        """Goes on behind the rows that are chosen already, one for each way that is gone."""
        if len(rows) == len(self.plan):
            if self.condition is None or worth(self.condition, rows, self.places):
                self.found.append(rows)
            return
        way = self.plan[len(rows)]
        came = self.come(way, rows)
        self.told += len(came)
        for row in came:
            chosen = dict(rows)
            chosen[way[1]] = row
            self.go(chosen)

    def come(self, way, rows):
        """The rows that a way comes to behind the rows that are chosen already."""
        kind = way[0]
        table = way[1]
        if kind == "all":
            return self.view.rows(table)
        if kind == "key":
            return self.view.by_key(table, way[2], way[3])
        if kind == "by":
            return self.view.by_index(table, way[2], way[3], way[4])
        if kind == "keyof":
            key = worth(way[2], rows, self.places)
            return self.view.by_key(table, key, key)
        if kind == "byof":
            number = worth(way[3], rows, self.places)
            return self.view.by_index(table, way[2], number, number)
        return []


def choices(plan, tables, condition, shapes, view):
    """The choices that fulfil a condition, by a plan, in the order of their keys, the first table's first."""
    walk = Walk(plan, condition, field_places(tables, shapes), view)
    walk.go({})
    return sorted(walk.found, key=lambda rows: [rows[table][0] for table in tables])


def answer(tree, plan, shapes, view):
    """What a question tells, by a plan of it, through a dealing."""
    _, how, terms, tables, condition, by, first = checked(tree, shapes)
    places = field_places(tables, shapes)
    found = choices(plan, tables, condition, shapes, view)
    if how == "pick":
        turned = sorted(found, key=lambda rows: worths(by, rows, places))
        return [worths(terms, rows, places) for rows in turned[:first]]
    if how == "count":
        return len(found)
    return gathered(how, [worth(terms[0], rows, places) for rows in found])


def worths(terms, rows, places):
    """What several terms come to."""
    return tuple([worth(term, rows, places) for term in terms])


def gathered(how, numbers):
    """The sum, the least or the most of numbers."""
    if how == "sum":
        return sum(numbers)
    if how == "least":
        return min(numbers, default=None)
    return max(numbers, default=None)


def answer_by(tree, plan, shapes, indexes, view):
    """What a question tells by one of all its plans, through a dealing."""
    tree = checked(tree, shapes)
    flat = [flat_plan(one) for one in all_plans(tree[3], tree[4], shapes, indexes)]
    if flat_plan(plan) not in flat:
        raise BadPlan()
    return answer(tree, plan, shapes, view)


def flat_plan(plan):
    """A plan with texts in the place of terms: a term may be too deep to be compared as a tree."""
    return tuple([flat_way(way) for way in plan])


def flat_way(way):
    """A way with a text in the place of its term, if it has one."""
    if way[0] in ("keyof", "byof"):
        return way[:-1] + (tree_text(way[-1]),)
    return way
