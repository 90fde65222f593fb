"""What the tests hold the program against: a grammar of statements, read in another way than the program does.

place_of follows all ways of reading at once (Earley's), so it needs no care about where a bracket leads.
The limit of twenty brackets and nots is not in this grammar; the tests try it apart.
"""

import re

KEPT_WORDS = (
    "table index put set where strike pick from and by first count sum least most begin done undo not or"
).split()

RULES = """
statement: table NAME names4 | index NAME NAME | put NAME numbers4
statement: set NAME settings | set NAME settings where condition | strike NAME | strike NAME where condition
statement: pick terms6 rest ends | count rest | sum term rest | least term rest | most term rest
statement: begin | done | undo
rest: from tables3 | from tables3 where condition
ends: | by terms3 | first COUNT | by terms3 first COUNT
names4: NAME | NAME NAME | NAME NAME NAME | NAME NAME NAME NAME
numbers4: number | number number | number number number | number number number number
settings: setting | setting , setting | setting , setting , setting
setting: NAME = term
terms3: term | term , term | term , term , term
terms6: terms3 | terms3 , term | terms3 , term , term | terms3 , term , term , term
tables3: NAME | NAME and NAME | NAME and NAME and NAME
number: COUNT | - GREATER
term: product | term + product | term - product
product: factor | product * factor
factor: number | NAME | NAME . NAME | ( term )
condition: both | condition or both
both: part | both and part
part: not part | ( condition ) | term sign term
sign: = | < | > | <= | >=
"""


def parsed_rules():
    rules = {}
    for line in RULES.strip().splitlines():
        name, ways = line.split(": ", 1) if ": " in line else (line.rstrip(":"), "")
        rules.setdefault(name, []).extend(tuple(way.split()) for way in ways.split("|"))
    return rules


GRAMMAR = parsed_rules()


def words_of(text):
    """The words of a text."""
    return re.findall(r"[a-z]+|[0-9]+|<=|>=|[^ ]", text)


def fits(symbol, word):
    """Whether a word may stand for an end symbol of the grammar."""
    if symbol == "NAME":
        return re.fullmatch("[a-z]{1,8}", word) is not None and word not in KEPT_WORDS
    if symbol == "COUNT":
        return re.fullmatch("0|[1-9][0-9]{0,5}", word) is not None
    if symbol == "GREATER":
        return re.fullmatch("[1-9][0-9]{0,5}", word) is not None
    return symbol == word


def closed(columns):
    """Adds to the last column of items all that they begin or end."""
    items = columns[-1]
    here = len(columns) - 1
    for name, way, at, start in items:
        if at < len(way):
            new = [(way[at], other, 0, here) for other in GRAMMAR.get(way[at], ())]
            if () in GRAMMAR.get(way[at], ()):
                new.append((name, way, at + 1, start))
        else:
            new = [(n, w, a + 1, s) for n, w, a, s in columns[start] if a < len(w) and w[a] == name]
        known = set(items)
        items.extend(item for item in dict.fromkeys(new) if item not in known)


def place_of(text):
    """The first place where a word can't stand, or how many words there are; None of a good text."""
    columns = [[("all", ("statement",), 0, 0)]]
    closed(columns)
    words = words_of(text)
    for place, word in enumerate(words):
        columns.append([(n, w, a + 1, s) for n, w, a, s in columns[-1] if a < len(w) and fits(w[a], word)])
        if not columns[-1]:
            return place
        closed(columns)
    if ("all", ("statement",), 1, 0) in columns[-1]:
        return None
    return len(words)


COMPARISONS = ("=", "<", ">", "<=", ">=")
NAMES = ("a", "b", "cc", "zebra", "eightful", "t", "u", "tables", "o", "notes")


class Maker:
    """Makes trees and texts, as a source of numbers tells it."""

    def __init__(self, source):
        self.source = source

    def name(self):
        return self.source.choice(NAMES)

    def number(self):
        return self.source.choice((0, 1, -1, 7, -42, 999999, -999999, self.source.randint(-999999, 999999)))

    def some(self, make, most):
        return tuple(make() for _ in range(self.source.randint(1, most)))

    def term(self, depth=3):
        kind = self.source.randint(0, 7 if depth else 3)
        if kind < 1:
            return ("num", self.number())
        if kind < 3:
            return ("field", "", self.name())
        if kind < 4:
            return ("field", self.name(), self.name())
        return (self.source.choice("+-*"), self.term(depth - 1), self.term(depth - 1))

    def condition(self, depth=3):
        kind = self.source.randint(0, 6 if depth else 1)
        if kind < 2:
            return (self.source.choice(COMPARISONS), self.term(2), self.term(2))
        if kind < 4:
            return ("not", self.condition(depth - 1))
        return (self.source.choice(("and", "or")), self.condition(depth - 1), self.condition(depth - 1))

    def where(self):
        return self.source.choice((None, self.condition()))

    def statement(self):
        kind = self.source.choice("table index put set strike ask ask ask begin done undo".split())
        if kind == "table":
            return (kind, self.name(), self.some(self.name, 4))
        if kind == "index":
            return (kind, self.name(), self.name())
        if kind == "put":
            return (kind, self.name(), self.some(self.number, 4))
        if kind == "set":
            return (kind, self.name(), self.some(lambda: (self.name(), self.term()), 3), self.where())
        if kind == "strike":
            return (kind, self.name(), self.where())
        if kind == "ask":
            return self.ask()
        return (kind,)

    def ask(self):
        how = self.source.choice("pick pick count sum least most".split())
        terms, by, first = (), (), None
        if how == "pick":
            terms = self.some(self.term, 6)
            by = self.source.choice(((), self.some(self.term, 3)))
            first = self.source.choice((None, 0, 1, self.source.randint(0, 999999)))
        elif how != "count":
            terms = (self.term(),)
        return ("ask", how, terms, self.some(self.name, 3), self.where(), by, first)

    def wide(self, tree):
        """The words of a term or a condition, each part of it in brackets."""
        if tree[0] == "num":
            return ["-", str(-tree[1])] if tree[1] < 0 else [str(tree[1])]
        if tree[0] == "field":
            return [tree[1], ".", tree[2]] if tree[1] else [tree[2]]
        if tree[0] == "not":
            return ["(", "not", *self.wide(tree[1]), ")"]
        words = [*self.wide(tree[1]), tree[0], *self.wide(tree[2])]
        return ["(", *words, ")"]

    def listed(self, parts, sign):
        words = list(parts[0])
        for part in parts[1:]:
            words += [sign, *part]
        return words

    def wide_where(self, condition):
        return [] if condition is None else ["where", *self.wide(condition)]

    def wide_statement(self, tree):
        """The words of a statement, each part of its terms and its condition in brackets."""
        kind = tree[0]
        if kind == "table":
            return [kind, tree[1], *tree[2]]
        if kind == "put":
            return [kind, tree[1]] + [word for number in tree[2] for word in self.wide(("num", number))]
        if kind == "set":
            settings = [[field, "=", *self.wide(term)] for field, term in tree[2]]
            return [kind, tree[1], *self.listed(settings, ","), *self.wide_where(tree[3])]
        if kind == "strike":
            return [kind, tree[1], *self.wide_where(tree[2])]
        if kind == "ask":
            return self.wide_ask(tree)
        return list(tree)

    def wide_ask(self, tree):
        _, how, terms, tables, condition, by, first = tree
        words = [how]
        if terms:
            words += self.listed([self.wide(term) for term in terms], ",")
        words += ["from", *self.listed([[table] for table in tables], "and"), *self.wide_where(condition)]
        if by:
            words += ["by", *self.listed([self.wide(term) for term in by], ",")]
        return words if first is None else [*words, "first", str(first)]

    def spaced(self, words):
        """A text of words, with blanks where they must be, and some where they may be."""
        text = self.source.choice(("", "", " ", "   "))
        for one, other in zip(words, words[1:] + [""]):
            text += one
            if words_of(one + other) != [word for word in (one, other) if word]:
                text += " "
            text += self.source.choice(("", "", " ", "   "))
        return text
