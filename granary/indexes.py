"""Indexes: which keys have which worth."""

from granary.finding import place_in


class Index:
    """Pairs (worth, key), each for so many versions."""

    def __init__(self):
        self.many = {}
        self.rising = []

    def add(self, worth, key):
        """Counts one version more that has a worth by a key."""
        pair = (worth, key)
        if pair not in self.many:
            self.rising.insert(place_in(self.rising, pair), pair)
            self.many[pair] = 0
        self.many[pair] += 1

    def lose(self, worth, key):
        """Counts one version less, of a pair that there is."""
        pair = (worth, key)
        if pair not in self.many:
            return
        self.many[pair] -= 1
        if self.many[pair] == 0:
            del self.many[pair]
            del self.rising[place_in(self.rising, pair)]

    def between(self, low, high):
        """The pairs with worths from one on up to another, None for no bound, rising."""
        begin = 0
        end = len(self.rising)
        # A worth alone goes ahead of all pairs that begin with it.
        if low is not None:
            begin = place_in(self.rising, (low,))
        if high is not None:
            end = place_in(self.rising, (high + 1,))
        return self.rising[begin:end]
