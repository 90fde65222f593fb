"""What the tests of plans and of doing hold the program against: a stand-in for a dealing, and a maker of questions.

The stand-in keeps its rows in plain dicts and looks through all of them; worths are told by Python itself, which is
handed a condition as its own text.
"""

from granary.errors import BadPlan, Twice

SIGNS = ("=", "<", ">", "<=", ">=")


class View:
    """A dealing in plain dicts; ways notes how its rows were come to, noted what it saw."""

    def __init__(self, shapes, rows=None, indexes=()):
        self.fields = {table: tuple(fields) for table, fields in shapes.items()}
        self.kept = {table: {row[0]: row for row in (rows or {}).get(table, ())} for table in shapes}
        self.pairs = sorted(indexes)
        self.ways = []
        self.noted = []

    def shapes(self):
        return dict(self.fields)

    def indexed(self):
        return list(self.pairs)

    def count(self, table):
        return len(self.kept[table])

    def row(self, table, key):
        return self.kept[table].get(key)

    def all(self, table):
        return [self.kept[table][key] for key in sorted(self.kept[table])]

    def within(self, table, at, low, high):
        rows = [row for row in self.all(table) if low is None or row[at] >= low]
        return sorted([row for row in rows if high is None or row[at] <= high], key=lambda row: (row[at], row[0]))

    def rows(self, table):
        self.ways.append(("all", table))
        return self.all(table)

    def by_key(self, table, low, high):
        self.ways.append(("key", table, low, high))
        return self.within(table, 0, low, high)

    def by_index(self, table, field, low, high):
        self.ways.append(("by", table, field, low, high))
        if (table, field) not in self.pairs:
            raise BadPlan()
        return self.within(table, self.fields[table].index(field), low, high)

    def put(self, table, row):
        self.noted.append((table, {self.fields[table][0]: (row[0], row[0])}))
        if row[0] in self.kept[table]:
            raise Twice()
        self.kept[table][row[0]] = tuple(row)

    def change(self, table, row):
        self.kept[table][row[0]] = row

    def strike(self, table, key):
        self.kept[table].pop(key, None)

    def make(self, write):
        if write[0] == "table":
            self.fields[write[1]] = write[2]
            self.kept[write[1]] = {}
        else:
            self.pairs = sorted([*self.pairs, write[1:]])

    def saw(self, table, bounds):
        self.noted.append((table, bounds))


def spelled(tree):
    """A term or a condition as a text that Python reads, of r, rows as dicts by tables."""
    if tree[0] == "num":
        return f"({tree[1]})"
    if tree[0] == "field":
        return f"r[{tree[1]!r}][{tree[2]!r}]"
    if tree[0] == "not":
        return f"(not {spelled(tree[1])})"
    sign = "==" if tree[0] == "=" else tree[0]
    return f"({spelled(tree[1])} {sign} {spelled(tree[2])})"


def named(tables, choice, shapes):
    """A choice of rows, each as a dict of its fields, by tables."""
    return {table: dict(zip(shapes[table], row)) for table, row in zip(tables, choice)}


def choices_of(tables, shapes, rows):
    """All choices of a row of each table in the order of their keys, the first table's first."""
    choices = [()]
    for table in tables:
        choices = [(*choice, row) for choice in choices for row in sorted(rows[table])]
    return choices


def asked(tree, shapes, rows):
    """What a question with tables filled in tells of rows."""
    _, how, terms, tables, condition, by, first = tree
    fulfils = eval("lambda r: " + ("True" if condition is None else spelled(condition)))
    worths = [eval("lambda r: " + spelled(term)) for term in terms]
    orders = [eval("lambda r: " + spelled(term)) for term in by]
    met = [r for r in (named(tables, choice, shapes) for choice in choices_of(tables, shapes, rows)) if fulfils(r)]
    if how == "count":
        return len(met)
    if how == "pick":
        met.sort(key=lambda r: [order(r) for order in orders])
        told = [tuple(worth(r) for worth in worths) for r in met]
        return told if first is None else told[:first]
    numbers = [worths[0](r) for r in met]
    if how == "sum":
        return sum(numbers)
    if numbers == []:
        return None
    return min(numbers) if how == "least" else max(numbers)


def compared_by_ands(cond):
    """The comparisons that must be true by ands alone, in turn."""
    if cond is None or cond[0] in ("not", "or"):
        return []
    if cond[0] == "and":
        return compared_by_ands(cond[1]) + compared_by_ands(cond[2])
    return [cond]


class Asker:
    """Makes worlds and questions of them, as a source of numbers tells it; worths are small, so that many meet."""

    def __init__(self, source):
        self.source = source

    def world(self):
        """Shapes, rows and indexes of one to four tables."""
        shapes, rows = {}, {}
        for table in self.source.sample(("t", "u", "v", "w"), self.source.randint(1, 4)):
            shapes[table] = tuple(self.source.sample(("a", "b", "c", "d", "e"), self.source.randint(1, 4)))
            keys = self.source.sample(range(-4, 5), self.source.randint(0, 5))
            rows[table] = [(key, *(self.worth() for _ in shapes[table][1:])) for key in keys]
        pairs = [(table, field) for table, fields in shapes.items() for field in fields[1:]]
        return shapes, rows, sorted(pair for pair in pairs if self.source.random() < 0.6)

    def worth(self):
        return self.source.randint(-4, 4)

    def field(self, tables, shapes):
        table = self.source.choice(tables)
        return ("field", table, self.source.choice(shapes[table]))

    def term(self, tables, shapes, depth=2):
        kind = self.source.randint(0, 6 if depth else 4)
        if kind < 2:
            return ("num", self.worth())
        if kind < 5:
            return self.field(tables, shapes)
        parts = (self.term(tables, shapes, depth - 1), self.term(tables, shapes, depth - 1))
        return (self.source.choice("+-*"), *parts)

    def comparison(self, tables, shapes):
        kind = self.source.randint(0, 9)
        if kind < 4:
            sides = [self.field(tables, shapes), ("num", self.worth())]
        elif kind < 7:
            sides = [self.field(tables, shapes), self.term(tables, shapes)]
        else:
            sides = [self.term(tables, shapes), self.term(tables, shapes)]
        self.source.shuffle(sides)
        return (self.source.choice(SIGNS + ("=", "=")), *sides)

    def condition(self, tables, shapes, depth=3):
        kind = self.source.randint(0, 9 if depth else 2)
        if kind < 3:
            return self.comparison(tables, shapes)
        if kind < 4:
            return ("not", self.condition(tables, shapes, depth - 1))
        sign = "or" if kind < 5 else "and"
        return (sign, self.condition(tables, shapes, depth - 1), self.condition(tables, shapes, depth - 1))

    def where(self, tables, shapes):
        return self.condition(tables, shapes) if self.source.random() < 0.9 else None

    def question(self, shapes):
        tables = tuple(self.source.sample(sorted(shapes), self.source.randint(1, min(3, len(shapes)))))
        how = self.source.choice("pick pick pick count sum least most".split())
        terms, by, first = (), (), None
        if how == "pick":
            terms = tuple(self.term(tables, shapes) for _ in range(self.source.randint(1, 6)))
            by = tuple(self.term(tables, shapes) for _ in range(self.source.randint(0, 3)))
            first = self.source.choice((None, None, 0, 1, 3, 999999))
        elif how != "count":
            terms = (self.term(tables, shapes),)
        return ("ask", how, terms, tables, self.where(tables, shapes), by, first)
