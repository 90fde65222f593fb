"""Houses: each keeps all rows, by a log on a disk; one of them leads."""

from granary.disks import Disk
from granary.logs import Log

NOBODY = -1


class House:
    """One house of many; post is the list of all letters under way.

    Settled is a dict that all houses share: the tickets of the records that any of them knew to be done, by numbers.
    """

    def __init__(self, number, many, post, settled):
        self.number = number
        self.many = many
        self.post = post
        self.settled = settled
        self.disk = Disk()
        self.log = Log(self.disk)
        self.up = True
        self.leads = False
        self.known = 0
        # Who let it lead in its term, itself first; none of this lasts through a fall.
        self.lets = {}
        # Of each other house, while it leads: from which number on it lacks records, up to which it surely has them.
        self.lacks = {}
        self.haves = {}
        # The store that dealings are opened of, while it leads.
        self.store = None

    def others(self):
        """The numbers of all other houses."""
        return [number for number in range(self.many) if number != self.number]

    def mail(self, what, to, told):
        """Lets a letter of its term go under way."""
        self.post.append((what, self.number, to, self.log.term(), told))

    def take_over(self):
        """Asks all others to lead, in a later term."""
        self.log.mark(self.log.term() + 1, self.number)
        self.leads = False
        self.lets = {}
        last = self.log.last()
        for number in self.others():
            self.mail("ask", number, (self.log.term_of(last), last))
        self.let_by(self.number)

    def let_by(self, number):
        """Counts one that lets it lead, and leads if more than half do."""
        self.lets[number] = True
        if not self.leads and 2 * len(self.lets) > self.many:
            self.lead()

    def lead(self):
        """Leads from now on, with a first record of its term."""
        self.leads = True
        for number in self.others():
            self.lacks[number] = self.log.last() + 1
            self.haves[number] = 0
        self.store = self.log.store()
        self.append_deal(NOBODY, NOBODY, ())

    def append_deal(self, asker, ticket, writes):
        """Appends a record as the leader, and sends it to all others."""
        number = self.log.last() + 1
        self.log.append(("deal", self.log.term(), number, asker, ticket, writes))
        self.store.take(number, writes)
        self.find_done()
        self.send_all()

    def send_all(self):
        """Sends each other house what it's taken to lack."""
        for number in self.others():
            self.send_to(number)

    def send_to(self, house):
        """Sends a house what it's taken to lack, or the last pages, if some of that is in them alone."""
        lacks = self.lacks[house]
        if lacks <= self.log.base():
            self.mail("whole", house, self.log.content())
            return
        ahead = lacks - 1
        self.mail("send", house, (ahead, self.log.term_of(ahead), tuple(self.log.records(lacks)), self.known))

    def take_letter(self, letter):
        """Does what a letter asks for."""
        what, sender, _, term, told = letter
        if term > self.log.term():
            self.go_over(term)
        if what in ("send", "whole"):
            self.take_records(what, sender, term, told)
        elif term == self.log.term():
            self.take_word(what, sender, told)

    def go_over(self, term):
        """Goes over to a later term, in which it lets nobody yet."""
        self.log.mark(term, None)
        self.leads = False
        self.lets = {}

    def take_word(self, what, sender, told):
        """Does what an ask or an answer of its own term asks for."""
        if what == "ask":
            self.take_ask(sender, told)
        elif what == "let":
            self.take_let(sender)
        elif self.leads and what == "have":
            self.take_have(sender, told)
        elif self.leads:
            self.take_lack(sender, told)

    def take_ask(self, sender, told):
        """Lets one lead, if it hasn't let another one and has no later last record."""
        last = self.log.last()
        if self.log.vote() not in (None, sender) or (self.log.term_of(last), last) > told:
            return
        if self.log.vote() is None:
            self.log.mark(self.log.term(), sender)
        self.mail("let", sender, ())

    def take_let(self, sender):
        """Counts a let, if it asked for that."""
        # It lets itself when it asks; one that rose hasn't asked yet, though lets of its term may still come.
        if self.number in self.lets:
            self.let_by(sender)

    def take_have(self, sender, told):
        """Notes, as the leader, up to where a house has all."""
        number = told[0]
        self.haves[sender] = max(self.haves[sender], number)
        self.lacks[sender] = max(self.lacks[sender], number + 1)
        self.find_done()

    def take_lack(self, sender, told):
        """Goes back, as the leader, to where a house may lack records, and sends them."""
        self.lacks[sender] = max(1, min(self.lacks[sender] - 1, told[0] + 1))
        self.send_to(sender)

    def take_records(self, what, sender, term, told):
        """Takes records, or pages, of its term's leader, and tells up to where it has them, or what it lacks."""
        if term < self.log.term():
            self.mail("lack", sender, (self.log.last(),))
            return
        self.leads = False
        if what == "whole":
            self.take_pages(sender, told)
        else:
            self.take_deals(sender, told)

    def take_pages(self, sender, told):
        """Takes pages that lie behind its own ones, if it hasn't their record."""
        number, term, content = told
        if number > self.log.base() and self.log.term_of(number) != term:
            self.log.take_whole(number, term, content)
        self.learn(number)
        self.mail("have", sender, (number,))

    def take_deals(self, sender, told):
        """Takes records, if it has the one ahead of them."""
        ahead, term, records, known = told
        if ahead > self.log.base() and self.log.term_of(ahead) != term:
            self.mail("lack", sender, (min(self.log.last(), ahead - 1),))
            return
        for record in records:
            self.take_deal(record)
        self.learn(known)
        self.mail("have", sender, (ahead + len(records),))

    def take_deal(self, record):
        """Takes a record that it hasn't; one of its own that is otherwise goes, with all behind it."""
        number = record[2]
        if number <= self.log.base() or self.log.term_of(number) == record[1]:
            return
        if self.log.has(number):
            self.log.cut(number)
        self.log.append(record)

    def find_done(self):
        """Finds out, as the leader, which records more than half have."""
        numbers = sorted([self.log.last()] + list(self.haves.values()), reverse=True)
        number = numbers[self.many // 2]
        # One of an elder term may still go, whoever has it.
        if self.log.term_of(number) == self.log.term():
            self.learn(number)

    def learn(self, number):
        """Knows all records up to a number to be done."""
        for record in self.log.records(self.known + 1):
            if record[2] <= number:
                self.settled.setdefault(record[2], record[4])
        self.known = max(self.known, number)

    def make_pages(self):
        """Makes pages of what it knows to be done."""
        self.log.checkpoint(self.known)
        if self.leads:
            self.store.sweep(self.known)

    def go_down(self):
        """Is up no more."""
        self.up = False
        self.leads = False

    def come_up(self, cut):
        """Is up again, by its disk."""
        self.disk.fall(cut)
        self.log = Log(self.disk)
        self.up = True
        self.known = self.log.base()
        self.lets = {}
