"""The versions of one table's rows."""

from granary.finding import place_in
from granary.indexes import Index


class Table:
    """All kept versions of a table's rows, by keys, and its indexes.

    A version is (the number of the record that made it, the row, None if it was struck).
    """

    def __init__(self, number, fields):
        self.number = number
        self.fields = fields
        self.chains = {}
        self.rising = []
        self.indexes = {}
        self.made = {}

    def lay(self, number, key, row):
        """Keeps a version of a key's row, later than all of this key."""
        if key not in self.chains:
            self.rising.insert(place_in(self.rising, key), key)
            self.chains[key] = []
        self.chains[key].append((number, row))
        if row is not None:
            for field, index in self.indexes.items():
                index.add(row[self.fields.index(field)], key)

    def make_index(self, number, field):
        """Makes an index of a field, by all versions that are kept."""
        index = Index()
        at = self.fields.index(field)
        for key, chain in self.chains.items():
            for _, row in chain:
                if row is not None:
                    index.add(row[at], key)
        self.indexes[field] = index
        self.made[field] = number

    def has_index(self, field, number):
        """Whether there was an index of a field at a moment."""
        return field in self.made and self.made[field] <= number

    def version(self, key, number):
        """The version of a key's row at a moment; both None if there was no row."""
        chain = self.chains.get(key, [])
        # A number alone goes ahead of all versions that begin with it.
        at = place_in(chain, (number + 1,))
        if at == 0 or chain[at - 1][1] is None:
            return (None, None)
        return chain[at - 1]

    def between(self, low, high, number):
        """The rows at a moment with keys from one on up to another, None for no bound, rising."""
        begin = 0 if low is None else place_in(self.rising, low)
        end = len(self.rising) if high is None else place_in(self.rising, high + 1)
        rows = [self.version(key, number)[1] for key in self.rising[begin:end]]
        return [row for row in rows if row is not None]

    def by_index(self, field, low, high, number):
        """The rows at a moment with a field within two bounds, rising by it, then by keys."""
        at = self.fields.index(field)
        rows = []
        for worth, key in self.indexes[field].between(low, high):
            row = self.version(key, number)[1]
            # The index has the pairs of all versions that are kept; only one of them is this moment's.
            if row is not None and row[at] == worth:
                rows.append(row)
        return rows
