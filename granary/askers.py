"""Askers, their open dealings, and those that have a ticket."""

from granary.copies import copied
from granary.planning import plan_text
from granary.refusals import is_dealing_word, looked_up, told_by
from granary.statements import best_plan


class Asker:
    """At which house one is, what dealing it has open, and its tickets."""

    def __init__(self, number):
        self.number = number
        self.house = 0
        self.draft = None
        self.tickets = []

    def drop(self):
        """Drops the dealing that is open, if one is."""
        if self.draft is not None:
            self.draft.dealing.end()
            self.draft = None


class Draft:
    """A dealing that is open, in the term of its house, with what it was told so far."""

    def __init__(self, dealing, term):
        self.dealing = dealing
        self.term = term
        # Whether it stands between begin and its end, whether it is ended, so that it may become a record.
        self.within = False
        self.ended = False
        # (text, answer, the plan's text) of each statement.
        self.lines = []

    def tell(self, text):
        """Does a statement, or refuses it."""
        tree, word = looked_up(text, self.dealing.shapes(), self.dealing.indexed(), self.within)
        plan = ()
        if word != "":
            answer = ("refused", word)
        elif is_dealing_word(tree):
            answer = ("told", 0)
            self.within = tree[0] == "begin"
            self.ended = tree[0] == "done"
        else:
            plan = best_plan(tree, self.dealing.indexed(), self.dealing)
            answer = told_by(tree, plan, self.dealing)
            self.ended = not self.within and answer[0] == "told"
        self.lines.append((text, copied(answer), plan_text(plan)))
        return answer

    def paper(self):
        """(its moment, rows, what it saw, its writes)."""
        return (self.dealing.number, tuple(self.lines), tuple(self.dealing.seen()), self.dealing.writes())


class Ticket:
    """A dealing that became a record, or whose house fell amid that: where, and of which term and number."""

    def __init__(self, house, term, number, paper):
        self.house = house
        self.term = term
        self.number = number
        self.paper = paper

    def texts(self):
        """All texts of the dealing."""
        return [text for text, _, _ in self.paper[1]]

    def answers(self):
        """All that the dealing was told."""
        return [copied(answer) for _, answer, _ in self.paper[1]]
