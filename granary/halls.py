"""Halls: houses, the letters between them, and their askers."""

from granary.askers import Asker, Draft, Ticket
from granary.comparing import compared_plans, past_of
from granary.copies import copied
from granary.errors import BadNumber, Gone
from granary.houses import House

MOST_HOUSES = 5
MOST_ASKERS = 9


class Hall:
    """Houses of which one leads, and askers who ask them."""

    def __init__(self, *, houses=3, askers=4):
        if houses < 1 or houses > MOST_HOUSES or askers < 1 or askers > MOST_ASKERS:
            raise BadNumber()
        self._post = []
        self._settled = {}
        self._houses = [House(number, houses, self._post, self._settled) for number in range(houses)]
        self._askers = [Asker(number) for number in range(askers)]
        self._tickets = []

    def _house(self, number):
        """A house by its number."""
        return one_of(self._houses, number)

    def _asker(self, number):
        """An asker by its number."""
        return one_of(self._askers, number)

    def _ticket(self, number):
        """A ticket by its number."""
        return one_of(self._tickets, number)

    def ask(self, asker, text):
        """Tells a statement to an asker's house."""
        one = self._asker(asker)
        house = self._houses[one.house]
        if not house.leads or (one.draft is not None and one.draft.term != house.log.term()):
            one.drop()
            return ("away",)
        if one.draft is None:
            one.draft = Draft(house.store.opened(), house.log.term())
        draft = one.draft
        answer = draft.tell(text)
        if draft.ended:
            answer = self._end_dealing(one, house, draft, answer)
        if not draft.within:
            one.drop()
        return answer

    def _end_dealing(self, asker, house, draft, answer):
        """Lets a dealing become a record, if nothing later hinders it."""
        if house.store.clash(draft.dealing) is not None:
            return ("clash",)
        number = len(self._tickets)
        paper = draft.paper()
        self._tickets.append(Ticket(house.number, draft.term, house.log.last() + 1, paper))
        asker.tickets.append(number)
        try:
            house.append_deal(asker.number, number, paper[3])
        except Gone:
            house.go_down()
        return ("waits", number, answer[1])

    def turn(self, asker, house):
        """Takes an asker to another house; what it has open is dropped."""
        one = self._asker(asker)
        self._house(house)
        one.drop()
        one.house = house

    def house_of(self, asker):
        """At which house an asker is."""
        return self._asker(asker).house

    def count_tickets(self):
        """How many tickets there are."""
        return len(self._tickets)

    def found(self, ticket):
        """What became of a ticket: done, gone, or unknown."""
        number = self._ticket(ticket).number
        if number not in self._settled:
            return "unknown"
        return "done" if self._settled[number] == ticket else "gone"

    def dealings(self, asker):
        """(texts, answers, ticket) of all of an asker's dealings that have a ticket, in turn."""
        tickets = self._asker(asker).tickets
        return [(self._tickets[number].texts(), self._tickets[number].answers(), number) for number in tickets]

    def underway(self, asker):
        """(moment, texts so far, what it saw) of an asker's open dealing, None for none."""
        draft = self._asker(asker).draft
        if draft is None:
            return None
        return (draft.dealing.number, [text for text, _, _ in draft.lines], draft.dealing.seen())

    def shown(self, ticket):
        """(texts, answers, house, term, number, the houses in whose logs its record stands) of a ticket."""
        one = self._ticket(ticket)
        houses = [house.number for house in self._houses if has_deal(house.log, ticket)]
        return (one.texts(), one.answers(), one.house, one.term, one.number, houses)

    def paper(self, ticket):
        """(moment, rows, what it saw, its writes) of a ticket."""
        return copied(self._ticket(ticket).paper)

    def letters(self):
        """(what, from, to, term) of all letters under way, in turn."""
        return [letter[:4] for letter in self._post]

    def come(self, at=0):
        """Lets the letter at a place come."""
        if at < 0 or at >= len(self._post):
            return False
        letter = self._post.pop(at)
        house = self._houses[letter[2]]
        if house.up:
            try:
                house.take_letter(letter)
            except Gone:
                house.go_down()
        return True

    def lose(self, at=0):
        """Lets the letter at a place be lost."""
        if at < 0 or at >= len(self._post):
            return False
        del self._post[at]
        return True

    def takeover(self, house):
        """Lets a house ask to lead."""
        one = self._house(house)
        if not one.up:
            return False
        try:
            one.take_over()
        except Gone:
            one.go_down()
        return True

    def beat(self, house):
        """Lets a leader send to all others, and tells whether it leads."""
        one = self._house(house)
        if one.leads:
            one.send_all()
        return one.leads

    def checkpoint(self, house):
        """Lets a house make pages of what it knows to be done."""
        one = self._house(house)
        if not one.up:
            return False
        try:
            one.make_pages()
        except Gone:
            one.go_down()
        return True

    def fall(self, house):
        """Lets a house be up no more."""
        one = self._house(house)
        if not one.up:
            return False
        one.go_down()
        return True

    def arm(self, house, many):
        """Lets a house's power go behind so many deeds of its disk."""
        self._house(house).disk.arm(many)

    def rise(self, house, *, cut=0):
        """Lets a house be up again; of what wasn't settled cut units are there."""
        one = self._house(house)
        if one.up:
            return False
        one.come_up(cut)
        return True

    def known(self, house):
        """(term, the numbers of its last pages, its last record, the last one that it knows to be done) of a house."""
        one = self._house(house)
        return (one.log.term(), one.log.base(), one.log.last(), one.known)

    def log(self, house):
        """(term, number, asker, ticket) of all records behind a house's pages."""
        log = self._house(house).log
        return [record[1:5] for record in log.records(log.base() + 1)]

    def leaders(self):
        """The houses that are up and take themselves for leaders."""
        return [house.number for house in self._houses if house.leads]

    def content(self, house, number):
        """What the store of a house's log holds at a number."""
        return self._house(house).log.store(number=number).content(number)

    def shaped(self, house):
        """({table: fields}, indexes) as a house's log stands."""
        log = self._house(house).log
        store = log.store()
        return (store.shapes(log.last()), store.indexed(log.last()))

    def compared(self, house, text):
        """(text, cost, rows told, choices) of all plans of a question, of the rows as a house's log stands."""
        return compared_plans(text, self._house(house).log.store().opened())

    def past(self, house, table, key):
        """(number, row or None) of all that a house's log tells of a key, rising."""
        return past_of(self._house(house).log, table, key)


def one_of(things, number):
    """The one of things that has a number; it's refused if there is none."""
    if number < 0 or number >= len(things):
        raise BadNumber()
    return things[number]


def has_deal(log, ticket):
    """Whether a log has, behind its pages, the record of a ticket."""
    return any([record[4] == ticket for record in log.records(log.base() + 1)])
