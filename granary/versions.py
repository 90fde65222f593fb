"""A store of all rows, by the writes of numbered records, as they were at each moment."""

from granary.dealings import Dealing
from granary.errors import BadNumber
from granary.tables import Table


def based(number, content):
    """A store whose first moment is a number, with what such content tells."""
    store = Store(first=number)
    store.begin_with(content)
    return store


class Store:
    """The writes of records, numbered one by one from behind first on."""

    def __init__(self, *, first=0):
        self.first = first
        self.newest = first
        self._tables = {}
        self._moments = {}

    def begin_with(self, content):
        """Lays all tables, indexes and rows of the first moment."""
        tables, indexes, rows = content
        for name, fields in tables:
            self._tables[name] = Table(self.first, tuple(fields))
        for name, field in indexes:
            self._tables[name].make_index(self.first, field)
        for name, told in rows:
            for row in told:
                self._tables[name].lay(self.first, row[0], tuple(row))

    def take(self, number, writes):
        """Takes the writes of the next record."""
        if number != self.newest + 1:
            raise BadNumber()
        for write in writes:
            self._take_one(number, write)
        self.newest = number

    def _take_one(self, number, write):
        """Takes one write of a record."""
        if write[0] == "table":
            self._tables[write[1]] = Table(number, tuple(write[2]))
        elif write[0] == "index":
            self._tables[write[1]].make_index(number, write[2])
        else:
            _, table, key, row = write
            self._tables[table].lay(number, key, None if row is None else tuple(row))

    def _check(self, number):
        """Refuses a moment that isn't."""
        if number < self.first or number > self.newest:
            raise BadNumber()

    def shapes(self, number):
        """The fields of all tables at a moment."""
        self._check(number)
        return {name: table.fields for name, table in self._tables.items() if table.number <= number}

    def indexed(self, number):
        """(table, field) of all indexes at a moment, rising."""
        self._check(number)
        pairs = [(name, field) for name, table in self._tables.items() for field in table.indexes]
        return sorted([pair for pair in pairs if self.has_index(pair[0], pair[1], number)])

    def has_index(self, table, field, number):
        """Whether there was an index of a table's field at a moment."""
        return table in self._tables and self._tables[table].has_index(field, number)

    def keys(self, table):
        """A table's keys of which a version is kept, rising."""
        if table not in self._tables:
            return []
        return list(self._tables[table].rising)

    def row(self, table, key, number):
        """A key's row at a moment, None for none."""
        return self.version(table, key, number)[1]

    def version(self, table, key, number):
        """(the number of the record that made a key's row, the row) at a moment, both None for none."""
        self._check(number)
        if table not in self._tables:
            return (None, None)
        return self._tables[table].version(key, number)

    def between(self, table, low, high, number):
        """A table's rows at a moment with keys from one on up to another, None for no bound, rising."""
        self._check(number)
        if table not in self._tables:
            return []
        return self._tables[table].between(low, high, number)

    def by_index(self, table, field, low, high, number):
        """A table's rows at a moment with a field within two bounds, by its index, rising by it, then by keys."""
        self._check(number)
        return self._tables[table].by_index(field, low, high, number)

    def content(self, number):
        """(tables and their fields, indexes, tables and their rows) at a moment, all rising; no table without rows."""
        shapes = self.shapes(number)
        names = sorted(shapes)
        rows = [(name, tuple(self.between(name, None, None, number))) for name in names]
        return (
            tuple([(name, shapes[name]) for name in names]),
            tuple(self.indexed(number)),
            tuple([pair for pair in rows if pair[1] != ()]),
        )

    def opened(self, *, number=None):
        """Opens a dealing at a moment, the newest if none is told."""
        moment = self.newest if number is None else number
        self._check(moment)
        self._moments[moment] = self._moments.get(moment, 0) + 1
        return Dealing(self, moment)

    def eldest(self):
        """The eldest moment of an open dealing, None if none is open."""
        return min(list(self._moments), default=None)

    def ended(self, number):
        """A dealing that was open at a moment ended."""
        self._moments[number] -= 1
        if self._moments[number] == 0:
            del self._moments[number]

    def clash(self, dealing):
        """The least number of a later record that wrote what a dealing saw, or made a table or an index; None."""
        self._check(dealing.number)
        later = [number for table in self._tables.values() for number in table.made_behind(dealing.number)]
        for name, bounds in dealing.seen():
            if name in self._tables:
                later += self._tables[name].written_behind(dealing.number, bounds)
        return min(later, default=None)

    def sweep(self, number):
        """Makes a moment the first one, or the eldest of an open dealing, if that is less, and tells it."""
        self._check(number)
        eldest = self.eldest()
        self.first = number if eldest is None else min(number, eldest)
        for table in self._tables.values():
            table.sweep(self.first)
        return self.first

    def versions(self):
        """How many versions of rows are kept, also of struck ones."""
        return sum([len(chain) for table in self._tables.values() for chain in table.chains.values()])
