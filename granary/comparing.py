"""What all plans of a question come to, and what a log tells of a key."""

from granary.doing import Walk
from granary.errors import BadPlan
from granary.names import checked
from granary.planning import plan_text
from granary.plans import all_plans, cost
from granary.texts import read
from granary.worths import field_places


def compared_plans(text, view):
    """(text, cost, how many rows its ways tell, how many choices it comes to) of all plans of a question's text."""
    shapes = view.shapes()
    indexes = view.indexed()
    tree = checked(read(text), shapes, indexes)
    if tree[0] != "ask":
        raise BadPlan()
    tables = tree[3]
    counts = {table: view.count(table) for table in tables}
    told = []
    for plan in all_plans(tables, tree[4], shapes, indexes):
        # Without a condition all choices are found that the ways come to.
        walk = Walk(plan, None, field_places(tables, shapes), view)
        walk.go({})
        told.append((plan_text(plan), cost(plan, counts), walk.told, len(walk.found)))
    return told


def past_of(log, table, key):
    """(number, row or None) of all of a log's records that wrote a key, ahead of them what its pages have of it."""
    if table not in log.store().shapes(log.last()):
        raise BadPlan()
    number, _, content = log.content()
    rows = [row for name, told in content[2] for row in told if name == table and row[0] == key]
    past = [(number, row) for row in rows]
    for record in log.records(number + 1):
        for write in record[5]:
            if write[:3] == ("row", table, key):
                past.append((record[2], write[3]))
    return past
