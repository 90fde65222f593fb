"""A plain store: statements done one by one, on all rows as they are."""

from granary.errors import Twice
from granary.refusals import is_dealing_word, looked_up, told_by
from granary.statements import asked_tables


class Sheet:
    """All tables, indexes and rows as they are, to be looked at and written as a dealing is."""

    def __init__(self):
        self._fields = {}
        self._pairs = []
        self._laid = {}

    def copy(self):
        """The same, apart."""
        other = Sheet()
        other._fields = {table: self._fields[table] for table in self._fields}
        other._pairs = list(self._pairs)
        other._laid = {table: {key: rows[key] for key in rows} for table, rows in self._laid.items()}
        return other

    def shapes(self):
        """The fields of all tables."""
        return {table: self._fields[table] for table in self._fields}

    def indexed(self):
        """(table, field) of all indexes, rising."""
        return sorted(self._pairs)

    def rows(self, table):
        """All rows of a table, rising by keys."""
        rows = self._laid[table]
        return [rows[key] for key in sorted(rows)]

    def saw(self, table, bounds):
        """Is told what a statement sees of a table; there is nobody later to hinder it."""

    def put(self, table, row):
        """Lays a row of a key that isn't there."""
        if row[0] in self._laid[table]:
            raise Twice()
        self._laid[table][row[0]] = row

    def change(self, table, row):
        """Lays a row in the place of its key's."""
        self._laid[table][row[0]] = row

    def strike(self, table, key):
        """Takes a key's row away."""
        del self._laid[table][key]

    def make(self, write):
        """Makes a table, or an index, by its write."""
        kind, table, told = write
        if kind == "table":
            self._fields[table] = told
            self._laid[table] = {}
        else:
            self._pairs.append((table, told))


class Plain:
    """A store that is told statements one by one, with nobody beside."""

    def __init__(self):
        self._sheet = Sheet()
        # What was ahead of the begin of the dealing that is open; None outside.
        self._ahead = None

    def copy(self):
        """The same, apart."""
        other = Plain()
        other._sheet = self._sheet.copy()
        if self._ahead is not None:
            other._ahead = self._ahead.copy()
        return other

    def tell(self, text):
        """Does a statement; ("told", answer) or ("refused", word)."""
        sheet = self._sheet
        tree, word = looked_up(text, sheet.shapes(), sheet.indexed(), self._ahead is not None)
        if word != "":
            return ("refused", word)
        if is_dealing_word(tree):
            self._turn(tree[0])
            return ("told", 0)
        return told_by(tree, tuple([("all", table) for table in asked_tables(tree)]), sheet)

    def _turn(self, word):
        """Begins a dealing, or ends or drops the one that is open."""
        if word == "begin":
            self._ahead = self._sheet.copy()
            return
        if word == "undo":
            # No table and no index is made within a dealing: these are as they were, too.
            self._sheet = self._ahead
        self._ahead = None


def plain_of(texts):
    """(a list of what each of some texts tells, the plain store that was told them)."""
    plain = Plain()
    return ([plain.tell(text) for text in texts], plain)
