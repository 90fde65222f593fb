"""Dealings: what one sees and writes, apart from all others, until it becomes a record."""

from granary.errors import BadPlan, Twice
from granary.sights import is_between


class Dealing:
    """A moment of a store, with its own writes above."""

    def __init__(self, store, number):
        self.number = number
        self._store = store
        self._made = []
        self._laid = {}
        self._sights = []
        self._over = False

    def row(self, table, key):
        """A key's row, None for none."""
        laid = self._laid_in(table)
        if key in laid:
            return laid[key]
        return self._store.row(table, key, self.number)

    def _laid_in(self, table):
        """Its own rows of a table by keys, None for those that it struck."""
        return self._laid.get(table, {})

    def version(self, table, key):
        """The number of the record that made a key's row; None for its own, and for none."""
        if key in self._laid_in(table):
            return None
        return self._store.version(table, key, self.number)[0]

    def rows(self, table):
        """All rows of a table, rising by keys."""
        return self.by_key(table, None, None)

    def by_key(self, table, low, high):
        """The rows with keys from one on up to another, None for no bound, rising."""
        rows = {row[0]: row for row in self._store.between(table, low, high, self.number)}
        for key, row in self._laid_in(table).items():
            if is_between(key, low, high):
                rows[key] = row
        return [rows[key] for key in sorted(rows) if rows[key] is not None]

    def by_index(self, table, field, low, high):
        """The rows with a field from one on up to another, None for no bound, rising by it, then by keys."""
        if not self._store.has_index(table, field, self.number):
            raise BadPlan()
        at = self.shapes()[table].index(field)
        laid = self._laid_in(table)
        rows = [row for row in self._store.by_index(table, field, low, high, self.number) if row[0] not in laid]
        rows += [row for row in laid.values() if row is not None and is_between(row[at], low, high)]
        return sorted(rows, key=lambda row: (row[at], row[0]))

    def count(self, table):
        """How many rows a table has."""
        return len(self.rows(table))

    def shapes(self):
        """The fields of all tables."""
        shapes = self._store.shapes(self.number)
        for write in self._made:
            if write[0] == "table":
                shapes[write[1]] = write[2]
        return shapes

    def indexed(self):
        """(table, field) of all indexes, rising."""
        own = [(write[1], write[2]) for write in self._made if write[0] == "index"]
        return sorted(self._store.indexed(self.number) + own)

    def put(self, table, row):
        """Lays a row of a key that isn't there, and notes that it saw this key."""
        key = row[0]
        self.saw(table, {self.shapes()[table][0]: (key, key)})
        if self.row(table, key) is not None:
            raise Twice()
        self._keep(table, key, tuple(row))

    def change(self, table, row):
        """Lays a row in the place of its key's."""
        self._keep(table, row[0], tuple(row))

    def strike(self, table, key):
        """Takes a key's row away, whether there is one or not."""
        self._keep(table, key, None)

    def _keep(self, table, key, row):
        """Lets a key's row be this one, None for none."""
        if table not in self._laid:
            self._laid[table] = {}
        self._laid[table][key] = row

    def make(self, write):
        """Makes a table, or an index, by its write."""
        kind, table, told = write
        self._made.append((kind, table, tuple(told) if kind == "table" else told))

    def writes(self):
        """All that was made, in turn, then all rows that are otherwise than at its moment, rising."""
        writes = list(self._made)
        for table in sorted(self._laid):
            laid = self._laid[table]
            for key in sorted(laid):
                if laid[key] != self._store.row(table, key, self.number):
                    writes.append(("row", table, key, laid[key]))
        return tuple(writes)

    def saw(self, table, bounds):
        """Notes that it saw a table within bounds; with None it saw nothing."""
        if bounds is None:
            return
        sight = (table, {field: tuple(bounds[field]) for field in bounds})
        if sight not in self._sights:
            self._sights.append(sight)

    def seen(self):
        """(table, bounds) of all that it saw, like ones once, in turn."""
        return [(table, dict(bounds)) for table, bounds in self._sights]

    def end(self):
        """Ends it."""
        if not self._over:
            self._over = True
            self._store.ended(self.number)
