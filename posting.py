"""What the tests of halls do with letters."""

from granary.halls import Hall


def places(hall, what=None, sender=None, to=None):
    """The places of letters of a kind."""
    return [at for at, letter in enumerate(hall.letters())
            if what in (None, letter[0]) and sender in (None, letter[1]) and to in (None, letter[2])]


def come(hall, what=None, sender=None, to=None):
    """Lets all letters of a kind come that are under way now, and tells how many these are."""
    many = len(places(hall, what, sender, to))
    for _ in range(many):
        hall.come(places(hall, what, sender, to)[0])
    return many


def lose(hall, what=None, sender=None, to=None):
    """Lets all letters of a kind be lost."""
    for at in places(hall, what, sender, to)[::-1]:
        hall.lose(at)


def settle(hall):
    """Lets all letters come."""
    while hall.come():
        pass
    return hall


def led(houses=3, askers=4, leader=0):
    """A hall in which a house leads, and no letter is under way."""
    hall = Hall(houses=houses, askers=askers)
    hall.takeover(leader)
    settle(hall)
    for asker in range(askers):
        hall.turn(asker, leader)
    return hall


def ask(hall, *texts, asker=0):
    """What an asker is told last."""
    return [hall.ask(asker, text) for text in texts][-1]


def take_over(hall, house):
    """Lets a house lead; only ask and let come, all that it sends behind is under way yet."""
    hall.takeover(house)
    come(hall, "ask", house)
    come(hall, "let", None, house)
    return hall
