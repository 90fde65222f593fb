"""The versions of one table's rows."""

from granary.finding import place_in
from granary.indexes import Index
from granary.sights import is_in


class Table:
    """All kept versions of a table's rows, by keys, and its indexes.

    A version is (the number of the record that made it, the row, None if it was struck).
    """

    def __init__(self, number, fields):
        self.number = number
        self.fields = fields
        self.chains = {}
        self.rising = []
        self.indexes = {}
        self.made = {}

    def lay(self, number, key, row):
        """Keeps a version of a key's row, later than all of this key."""
        if key not in self.chains:
            self.rising.insert(place_in(self.rising, key), key)
            self.chains[key] = []
        self.chains[key].append((number, row))
        if row is not None:
            for field, index in self.indexes.items():
                index.add(row[self.fields.index(field)], key)

    def make_index(self, number, field):
        """Makes an index of a field, by all versions that are kept."""
        index = Index()
        at = self.fields.index(field)
        for key, chain in self.chains.items():
            for _, row in chain:
                if row is not None:
                    index.add(row[at], key)
        self.indexes[field] = index
        self.made[field] = number

    def has_index(self, field, number):
        """Whether there was an index of a field at a moment."""
        return field in self.made and self.made[field] <= number

    def version(self, key, number):
        """The version of a key's row at a moment; both None if there was no row."""
        chain = self.chains.get(key, [])
        # A number alone goes ahead of all versions that begin with it.
        at = place_in(chain, (number + 1,))
        if at == 0 or chain[at - 1][1] is None:
            return (None, None)
        return chain[at - 1]

    def _keys_between(self, low, high):
        """The keys from one on up to another, None for no bound, rising."""
        begin = 0 if low is None else place_in(self.rising, low)
        end = len(self.rising) if high is None else place_in(self.rising, high + 1)
        return self.rising[begin:end]

    def between(self, low, high, number):
        """The rows at a moment with keys from one on up to another, None for no bound, rising."""
        rows = [self.version(key, number)[1] for key in self._keys_between(low, high)]
        return [row for row in rows if row is not None]

    def by_index(self, field, low, high, number):
        """The rows at a moment with a field within two bounds, rising by it, then by keys."""
        at = self.fields.index(field)
        rows = []
        for worth, key in self.indexes[field].between(low, high):
            row = self.version(key, number)[1]
            # The index has the pairs of all versions that are kept; only one of them is this moment's.
            if row is not None and row[at] == worth:
                rows.append(row)
        return rows

    def made_behind(self, number):
        """The numbers of the records behind a moment that made the table, or its indexes."""
        return [made for made in [self.number] + list(self.made.values()) if made > number]

    def written_behind(self, number, bounds):
        """The numbers of the records behind a moment that wrote a row that was, or is then, within bounds."""
        low, high = bounds.get(self.fields[0], (None, None))
        found = []
        for key in self._keys_between(low, high):
            before = None
            for made, row in self.chains[key]:
                if made > number and (is_in(before, self.fields, bounds) or is_in(row, self.fields, bounds)):
                    found.append(made)
                before = row
        return found

    def sweep(self, number):
        """Keeps of each key's versions the row that a moment shows, and all later ones."""
        for key in list(self.rising):
            self._sweep_key(key, number)
        self.rising = [key for key in self.rising if key in self.chains]

    def _sweep_key(self, key, number):
        """Keeps of one key's versions the row that a moment shows, and all later ones."""
        chain = self.chains[key]
        begin = place_in(chain, (number + 1,))
        if begin > 0 and chain[begin - 1][1] is not None:
            begin -= 1
        for _, row in chain[:begin]:
            self._lose(key, row)
        self.chains[key] = chain[begin:]
        if self.chains[key] == []:
            del self.chains[key]

    def _lose(self, key, row):
        """Takes a version's row, or None, out of all indexes."""
        if row is not None:
            for field, index in self.indexes.items():
                index.lose(row[self.fields.index(field)], key)
