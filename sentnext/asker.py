"""An asker that is told its answers one by one."""

from sentnext.errors import NothingDone
from sentnext.logs import may_head
from sentnext.stories import NONE_ASKED


class Asker:
    """Who asks in a house, and the log of what was answered so far."""

    def __init__(self, house):
        self._house = house
        self._log = ()

    @property
    def house(self):
        """The house."""
        return self._house

    @property
    def log(self):
        """The log so far."""
        return self._log

    def ask(self, server, name):
        """The server was asked and named this one; tells how many moments the log has."""
        log = self._log + ((server, name),)
        # An answer that no course gives is refused ahead of any change.
        may_head(self._house, log)
        self._log = log
        return len(log)

    def wait(self):
        """None was asked; tells how many moments the log has."""
        self._log = self._log + (NONE_ASKED,)
        return len(self._log)

    def undo(self):
        """Takes the last moment back; tells how many moments the log has."""
        if len(self._log) == 0:
            raise NothingDone()
        self._log = self._log[:-1]
        return len(self._log)

    def may(self):
        """The servers that may head at the moment behind the log."""
        return may_head(self._house, self._log)

    def sure(self):
        """The one server that may head at the moment behind the log, or None if several may."""
        heads = self.may()
        return heads[0] if len(heads) == 1 else None

    def twin(self):
        """Another asker with the same house and log, which goes on by itself."""
        other = Asker(self._house)
        other._log = self._log
        return other

    def __len__(self):
        return len(self._log)

    def __eq__(self, other):
        return isinstance(other, Asker) and self._house == other._house and self._log == other._log

    def __ne__(self, other):
        return not self == other
