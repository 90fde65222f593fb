"""Whether a plain store tells what dealings were told."""

from granary.errors import BadNumber
from granary.plain import Plain

MOST_DEALINGS = 7


def judged(histories, tickets):
    """(asker, number) of the first dealing, in the tickets' order, that can't stand there; None if all can."""
    places = places_of(histories)
    for ticket in tickets:
        if ticket not in places:
            raise BadNumber()
    plain = Plain()
    # How many of each asker's dealings are no more to be told: those up to the last one that was.
    behind = [0 for _ in histories]
    for ticket in tickets:
        asker, number = places[ticket]
        if number < behind[asker] or not tells_so(plain, histories[asker][number]):
            return (asker, number)
        behind[asker] = number + 1
    return None


def places_of(histories):
    """{ticket: (asker, number)} of all dealings."""
    places = {}
    for asker, dealings in enumerate(histories):
        for number, dealing in enumerate(dealings):
            places[dealing[2]] = (asker, number)
    return places


def tells_so(plain, dealing):
    """Whether a plain store, told a dealing's texts, tells the same."""
    texts, answers, _ = dealing
    return [plain.tell(text) for text in texts] == list(answers)


def order_of(histories):
    """(asker, number) of all dealings in the first order in which a plain store tells all; None if there is none."""
    if sum([len(dealings) for dealings in histories]) > MOST_DEALINGS:
        raise BadNumber()
    return order_behind(Plain(), histories, [0 for _ in histories])


def order_behind(plain, histories, told):
    """The first order of what isn't told yet; told is how many of each asker's dealings are."""
    order = None
    if all([told[asker] == len(dealings) for asker, dealings in enumerate(histories)]):
        return []
    for asker, dealings in enumerate(histories):
        if order is None and told[asker] < len(dealings):
            order = order_with(plain, histories, told, asker)
    return order


def order_with(plain, histories, told, asker):
    """The first order of what isn't told yet that begins with an asker's next dealing."""
    number = told[asker]
    other = plain.copy()
    if not tells_so(other, histories[asker][number]):
        return None
    behind = order_behind(other, histories, told[:asker] + [number + 1] + told[asker + 1:])
    if behind is None:
        return None
    return [(asker, number)] + behind
