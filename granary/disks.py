"""Disks: units that are written, and last if they're settled, also where power goes."""

from granary.copies import copied
from granary.errors import BadNumber, Gone


class Disk:
    """Units in turn, of which the first ones last."""

    def __init__(self):
        self._units = []
        self._lasting = 0
        # How many writes and settles there is power for; None for any number of them.
        self._left = None
        self._gone = False

    def write(self, unit):
        """Writes one unit."""
        self._need_power()
        self._units.append(copied(unit))

    def settle(self):
        """Makes all units last."""
        self._need_power()
        self._lasting = len(self._units)

    def _need_power(self):
        """Takes the power for one write or settle; refuses it, and what comes behind, where there is none."""
        if self._left == 0:
            self._gone = True
        self._refuse_gone()
        if self._left is not None:
            self._left -= 1

    def _refuse_gone(self):
        """Refuses where power is gone."""
        if self._gone:
            raise Gone()

    def units(self):
        """All units, in turn, settled or not."""
        self._refuse_gone()
        return copied(self._units)

    def arm(self, many):
        """Lets power go behind so many writes and settles more."""
        if many < 0:
            raise BadNumber()
        self._left = many

    def fall(self, cut):
        """Power was gone, and is there again; of the units that didn't last the first cut ones do now."""
        if cut < 0:
            raise BadNumber()
        self._units = self._units[:self._lasting + cut]
        self._lasting = len(self._units)
        self._left = None
        self._gone = False
