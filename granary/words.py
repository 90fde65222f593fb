"""The words of a text, and taking them one by one."""

from granary.errors import BadText

LETTERS = "abcdefghijklmnopqrstuvwxyz"
FIGURES = "0123456789"
LONGEST_NAME = 8
LONGEST_NUMBER = 6
DEEPEST = 20
KEPT_WORDS = (
    "table", "index", "put", "set", "where", "strike",
    "pick", "from", "and", "by", "first", "count", "sum", "least", "most",
    "begin", "done", "undo", "not", "or",
)


def run_end(text, at, signs):
    """The place behind the run of such signs that begins at a place."""
    while at < len(text) and text[at] in signs:
        at += 1
    return at


def word_end(text, at):
    """The place behind the word that begins at a place."""
    if text[at] in LETTERS:
        return run_end(text, at, LETTERS)
    if text[at] in FIGURES:
        return run_end(text, at, FIGURES)
    if text[at:at + 2] in ("<=", ">="):
        return at + 2
    return at + 1


def split_words(text):
    """The words of a text, in turn."""
    words = []
    at = 0
    while at < len(text):
        end = word_end(text, at)
        if text[at] != " ":
            words.append(text[at:end])
        at = end
    return words


def is_name(word):
    """Whether a word may be a name."""
    if word == "" or word[0] not in LETTERS:
        return False
    return len(word) <= LONGEST_NAME and word not in KEPT_WORDS


def is_number(word):
    """Whether a word may be a number."""
    if word == "" or word[0] not in FIGURES:
        return False
    return len(word) <= LONGEST_NUMBER and (word == "0" or word[0] != "0")


class Words:
    """The words of a text, of which those ahead of place are taken."""

    def __init__(self, text):
        self.words = split_words(text)
        self.place = 0
        self.depth = 0

    def ended(self):
        """Whether all words are taken."""
        return self.place == len(self.words)

    def ahead(self):
        """The next word, not yet taken; an empty text behind the last one."""
        if self.ended():
            return ""
        return self.words[self.place]

    def take(self):
        """Takes the next word, which was looked at, and tells it."""
        word = self.words[self.place]
        self.place += 1
        return word

    def passes(self, word):
        """Takes the next word if it is this one, and tells whether it was."""
        if self.ahead() != word:
            return False
        self.place += 1
        return True

    def must(self, word):
        """Takes the next word, which must be this one."""
        if not self.passes(word):
            raise BadText(place=self.place)

    def finish(self):
        """Refuses words behind the end."""
        if not self.ended():
            raise BadText(place=self.place)

    def take_name(self):
        """Takes a name."""
        if not is_name(self.ahead()):
            raise BadText(place=self.place)
        return self.take()

    def take_plain_number(self, *, beyond=None):
        """Takes a number that has no - ahead; beyond is a word more that may be one."""
        word = self.ahead()
        if word != beyond and not is_number(word):
            raise BadText(place=self.place)
        return int(self.take())

    def take_number(self, *, above=None, below=None):
        """Takes a number, perhaps with - ahead; above is a word more that may be one, below one behind a -."""
        if not self.passes("-"):
            return self.take_plain_number(beyond=above)
        if self.ahead() == "0":
            raise BadText(place=self.place)
        return -self.take_plain_number(beyond=below)

    def enter(self):
        """Takes a bracket or a not, within which what follows stands."""
        if self.depth == DEEPEST:
            raise BadText(place=self.place)
        self.depth += 1
        self.take()

    def leave(self):
        """What follows stands no more within the last bracket or not."""
        self.depth -= 1


def read_name(words):
    """Takes a name."""
    return words.take_name()


def read_number(words):
    """Takes a number, perhaps with - ahead."""
    return words.take_number()
