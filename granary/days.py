"""Days: what is done with a hall, deed by deed, as a text."""

from granary.errors import BadText
from granary.halls import Hall
from granary.words import FIGURES

LONGEST_NUMBER = 3
# How many numbers each deed has, but ask, which has a text behind its number.
NUMBERS = {
    "come": 1, "lose": 1, "takeover": 1, "beat": 1, "checkpoint": 1, "fall": 1, "found": 1, "known": 1, "log": 1,
    "dealings": 1, "shown": 1, "rise": 2, "arm": 2, "turn": 2, "letters": 0, "leaders": 0,
}


def day_text(deeds):
    """The text of deeds."""
    return "\n".join([deed_text(deed) for deed in deeds])


def deed_text(deed):
    """The row of one deed."""
    word, numbers, text = deed
    parts = [word] + [str(number) for number in numbers]
    if word == "ask":
        parts.append(text)
    return " ".join(parts)


def read_day(text):
    """(word, numbers, text) of all deeds of a day's text."""
    if text == "":
        return []
    return [read_deed(row, place) for place, row in enumerate(text.split("\n"))]


def read_deed(row, place):
    """The deed of one row."""
    word, _, rest = row.partition(" ")
    if word == "ask":
        number, _, text = rest.partition(" ")
        if not is_number(number) or text == "":
            raise BadText(place=place)
        return ("ask", (int(number),), text)
    parts = row.split(" ")[1:]
    if word not in NUMBERS or len(parts) != NUMBERS[word] or not all([is_number(part) for part in parts]):
        raise BadText(place=place)
    return (word, tuple([int(part) for part in parts]), "")


def is_number(word):
    """Whether a word of a row is a number of one to three figures, none needless."""
    if word == "" or len(word) > LONGEST_NUMBER or not all([figure in FIGURES for figure in word]):
        return False
    return word == "0" or word[0] != "0"


def played(text, *, houses=3, askers=4):
    """(what each deed of a day tells, the hall that did it)."""
    deeds = read_day(text)
    hall = Hall(houses=houses, askers=askers)
    return ([told_of(hall, deed) for deed in deeds], hall)


def told_of(hall, deed):
    """What a hall's method tells of a deed."""
    word, numbers, text = deed
    if word == "ask":
        return hall.ask(numbers[0], text)
    if len(numbers) == 1:
        return told_of_one(hall, word, numbers[0])
    if word == "rise":
        return hall.rise(numbers[0], cut=numbers[1])
    if word == "arm":
        return hall.arm(numbers[0], numbers[1])
    if word == "turn":
        return hall.turn(numbers[0], numbers[1])
    if word == "letters":
        return hall.letters()
    return hall.leaders()


def told_of_one(hall, word, number):
    """What a hall's method tells of a deed with one number."""
    if word == "come":
        return hall.come(number)
    if word == "lose":
        return hall.lose(number)
    if word == "takeover":
        return hall.takeover(number)
    if word == "beat":
        return hall.beat(number)
    if word == "checkpoint":
        return hall.checkpoint(number)
    if word == "fall":
        return hall.fall(number)
    if word == "found":
        return hall.found(number)
    if word == "known":
        return hall.known(number)
    if word == "log":
        return hall.log(number)
    if word == "dealings":
        return hall.dealings(number)
    return hall.shown(number)
