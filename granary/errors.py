"""The refusals of the program."""


class StoreError(ValueError):
    """Any refusal."""


class BadText(StoreError):
    """A text that isn't so; place tells the first word, or row, that can't stand there."""

    def __init__(self, *, place):
        super().__init__(f"what stands at place {place} can't stand there, or more must come")
        self.place = place


class BadName(StoreError):
    """A name that can't stand where it does; word tells it."""

    def __init__(self, *, word):
        super().__init__(f"the name {word} can't stand there")
        self.word = word


class BadRow(StoreError):
    """A row of another count of numbers than its table has fields."""


class TooGreat(StoreError):
    """A row's worth would be beyond what a row may hold."""


class Twice(StoreError):
    """A row whose key is there."""


class BadPlan(StoreError):
    """A plan, or a way of one, that there isn't."""


class Within(StoreError):
    """A statement that can't stand within a dealing, or outside of one."""


class BadNumber(StoreError):
    """A number of something that there isn't."""


class Gone(StoreError):
    """The power of a disk is gone."""
