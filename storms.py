"""Makes days at random, as a source of numbers tells it, and looks at halls amid them."""

from granary.halls import Hall
from granary.papers import followed

TABLES = ("table t k a", "table u k b c", "index t a", "index u b")


class Storm:
    """A hall in which letters are lost or come late, houses fall, rise and take over; looked at behind each deed."""

    def __init__(self, source, houses=3, askers=3, rough=0.2):
        self.source = source
        self.hall = Hall(houses=houses, askers=askers)
        self.houses = houses
        self.askers = askers
        self.rough = rough
        self.deeds = []
        self.told = []
        self.settled = {}
        self.agreed = {}
        self.led = {}
        # In which term a house asked to lead last, since it rose.
        self.sought = {}
        self.bases = {}
        self.wrong = []

    def go(self, many):
        for _ in range(many):
            self.step()
        return self

    def do(self, word, *numbers, text=""):
        self.deeds.append((word, numbers, text))
        hall = self.hall
        if word == "ask":
            told = self.asked(numbers[0], text)
        elif word == "rise":
            told = hall.rise(numbers[0], cut=numbers[1])
        else:
            told = getattr(hall, word)(*numbers)
        self.told.append(told)
        if word == "takeover":
            self.sought[numbers[0]] = hall.known(numbers[0])[0]
        elif word == "rise" and told:
            self.sought[numbers[0]] = None
        self.look()
        return told

    def asked(self, asker, text):
        """Asks, and looks at the paper of what became a record."""
        hall = self.hall
        house = hall.house_of(asker)
        if hall.underway(asker) is None:
            self.bases[asker] = hall.content(house, hall.known(house)[2])
        told = hall.ask(asker, text)
        if told[0] == "waits":
            found = followed(hall.paper(told[1]), self.bases[asker])
            if found is not None:
                self.wrong.append(("paper", told[1], found))
        return told

    def step(self):
        """One deed more: mostly a letter comes or one asks; at times what is rough."""
        chance = self.source.random()
        letters = len(self.hall.letters())
        if chance < self.rough * 0.5:
            self.rough_deed()
        elif not self.hall.leaders() and chance > 0.6:
            self.seek_leader()
        elif chance < 0.6 and letters:
            self.do("come", self.source.choice((0, 0, 0, self.source.randrange(letters))))
        elif chance < 0.65:
            self.do("beat", self.source.randrange(self.houses))
        else:
            self.ask()

    def rough_deed(self):
        """What hinders: a fall, power that goes, a letter that is lost, a takeover, pages."""
        house = self.source.randrange(self.houses)
        letters = len(self.hall.letters())
        word = self.source.choice("fall rise rise arm takeover lose lose checkpoint turn".split())
        if word == "lose":
            self.do("lose", self.source.randrange(letters + 1))
        elif word == "rise":
            self.do("rise", house, self.source.randrange(4))
        elif word == "arm":
            self.do("arm", house, self.source.randrange(6))
        elif word == "turn":
            self.do("turn", self.source.randrange(self.askers), house)
        else:
            self.do(word, house)

    def seek_leader(self):
        """Lets a house be up, or ask to lead."""
        house = self.source.randrange(self.houses)
        if self.source.random() < 0.4 or self.hall.letters():
            self.do("rise", house, self.source.randrange(4))
        else:
            self.do("takeover", house)

    def ask(self):
        """An asker, mostly at a leader, asks."""
        asker = self.source.randrange(self.askers)
        leaders = self.hall.leaders()
        if leaders and self.hall.house_of(asker) not in leaders and self.source.random() < 0.8:
            self.do("turn", asker, self.source.choice(leaders))
        self.do("ask", asker, text=self.text(self.hall.underway(asker) is not None))

    def number(self):
        return self.source.randint(0, 5)

    def text(self, within):
        """A statement, good ones mostly."""
        table, field = self.source.choice((("t", "a"), ("u", "b"), ("u", "c")))
        chance = self.source.random()
        if chance < 0.12:
            return self.source.choice(TABLES)
        if chance < 0.3:
            return f"put t {self.number()} {self.number()}"
        if chance < 0.4:
            return f"put u {self.number()} {self.number()} {self.number()}"
        if chance < 0.5:
            return f"set {table} {field} = {field} + {self.number()} where k < {self.number()}"
        if chance < 0.52:
            return f"set {table} {field} = {field} * 500000"
        if chance < 0.57:
            return f"strike {table} where {field} = {self.number()}"
        if chance < 0.7:
            return f"pick k, {field} from {table} where {field} > {self.number()} by {field} first 3"
        if chance < 0.75:
            return f"count from t and u where t.a = u.b and t.k >= {self.number()}"
        if chance < 0.8:
            return self.source.choice(("put t 1", "pick", "undo", "count from v", "begin", "index t k"))
        if within:
            return "done"
        return "begin"

    def look(self):
        """Looks whether all holds that must hold behind each deed."""
        hall = self.hall
        for ticket in range(hall.count_tickets()):
            found = hall.found(ticket)
            if self.settled.setdefault(ticket, found) != found:
                self.wrong.append(("found", ticket, self.settled[ticket], found))
            if found == "unknown":
                del self.settled[ticket]
        for house in range(self.houses):
            _, base, last, known = hall.known(house)
            if not base <= known <= last:
                self.wrong.append(("known", house, hall.known(house)))
            for record in hall.log(house):
                if record[1] <= known and self.agreed.setdefault(record[1], record) != record:
                    self.wrong.append(("agreed", house, record))
        for house in hall.leaders():
            term = hall.known(house)[0]
            if self.led.setdefault(term, house) != house or self.sought.get(house) != term:
                self.wrong.append(("leaders", house, term))

    def histories(self):
        return [self.hall.dealings(asker) for asker in range(self.askers)]

    def done_tickets(self):
        """The tickets that are done, by their records' numbers."""
        hall = self.hall
        tickets = [ticket for ticket in range(hall.count_tickets()) if hall.found(ticket) == "done"]
        return sorted(tickets, key=lambda ticket: hall.shown(ticket)[4])
