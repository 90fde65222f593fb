"""Logs: records on a disk, behind pages of what the store was at a number."""

from granary.copies import fixed
from granary.errors import BadNumber
from granary.versions import based

MOST_ROWS = 8


def recovered(disk):
    """(a list of the records, the store, the base's number) of a disk."""
    log = Log(disk)
    return (log.records(log.base() + 1), log.store(), log.base())


class Log:
    """What whole deeds on a disk made: a term and a vote, pages of the base, records behind it.

    Each deed writes units, the last of which makes it whole: ("mark", term, vote), a record, ("cut", number),
    or, behind its pages, ("base" or "whole", number, term, tables, indexes, how many pages).
    """

    def __init__(self, disk):
        self._disk = disk
        self._term = 0
        self._vote = None
        self._base = (0, 0, ((), (), ()))
        self._deals = []
        pages = []
        for unit in disk.units():
            if unit[0] == "page":
                pages.append(unit)
            else:
                self._apply(unit, pages)
                pages = []

    def _do(self, unit, pages):
        """Does a deed: it lasts on the disk ahead of its being so here."""
        for page in pages:
            self._disk.write(page)
        self._disk.write(unit)
        self._disk.settle()
        self._apply(unit, pages)

    def _apply(self, unit, pages):
        """Lets a deed be so, by its last unit and the pages ahead of it."""
        kind = unit[0]
        if kind == "mark":
            _, self._term, self._vote = unit
        elif kind == "deal":
            self._deals.append(unit)
        elif kind == "cut":
            self._deals = [record for record in self._deals if record[2] < unit[1]]
        else:
            _, number, term, tables, indexes, many = unit
            # Pages of a deed that never was whole may lie ahead of its own ones.
            self._base = (number, term, (tables, indexes, page_rows(pages[len(pages) - many:])))
            self._deals = [] if kind == "whole" else self.records(number + 1)

    def mark(self, term, vote):
        """Keeps a term and a vote."""
        self._do(("mark", term, vote), [])

    def append(self, record):
        """Keeps the next record."""
        if record[2] != self.last() + 1:
            raise BadNumber()
        self._do(fixed(record), [])

    def cut(self, number):
        """Lets the records from a number on go."""
        if number <= self.base() or number > self.last() + 1:
            raise BadNumber()
        self._do(("cut", number), [])

    def checkpoint(self, number):
        """Makes a number the base, its store in pages, and tells how many."""
        content = self.store(number=number).content(number)
        return self._begin_at("base", number, self.term_of(number), content)

    def take_whole(self, number, term, content):
        """Takes pages of a number, and lets all records go."""
        self._begin_at("whole", number, term, fixed(content))

    def _begin_at(self, kind, number, term, content):
        """Lays a base with its pages, and tells how many."""
        tables, indexes, rows = content
        pages = pages_of(rows)
        self._do((kind, number, term, tables, indexes, len(pages)), pages)
        return len(pages)

    def term(self):
        """The term that was marked last, 0 at first."""
        return self._term

    def vote(self):
        """The vote that was marked last, None at first."""
        return self._vote

    def last(self):
        """The last record's number, or the base's."""
        return self.base() + len(self._deals)

    def base(self):
        """The number of the pages, 0 at first."""
        return self._base[0]

    def has(self, number):
        """Whether a number is from the base to the last."""
        return self.base() <= number <= self.last()

    def term_of(self, number):
        """The term of a record or of the base, None for others."""
        if number == self.base():
            return self._base[1]
        if not self.has(number):
            return None
        return self._deals[number - self.base() - 1][1]

    def records(self, begin):
        """The records from a number on."""
        return [record for record in self._deals if record[2] >= begin]

    def content(self):
        """(number, term, content) of the base."""
        return self._base

    def store(self, *, number=None):
        """A store of all up to a number, the last if none is told, whose first moment is the base."""
        end = self.last() if number is None else number
        if not self.has(end):
            raise BadNumber()
        store = based(self.base(), self._base[2])
        for record in self._deals[:end - self.base()]:
            store.take(record[2], record[5])
        return store


def pages_of(rows):
    """Pages of all rows, by tables, each of one table."""
    pages = []
    for table, told in rows:
        for at in range(0, len(told), MOST_ROWS):
            pages.append(("page", table, told[at:at + MOST_ROWS]))
    return pages


def page_rows(pages):
    """(table, rows) of all tables that pages have rows of."""
    rows = {}
    for _, table, told in pages:
        rows[table] = rows.get(table, ()) + told
    return tuple([(table, rows[table]) for table in rows])
