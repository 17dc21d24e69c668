"""Desks: calls of handlers by their names, alone or several in one go."""
from rowsinplace.checks import is_name
from rowsinplace.errors import BadCall, BadName, BadVisit, CallFailed, Clash, NoHandler
from rowsinplace.handlers import bring


class Desk:
    """A board with a visit, and handlers by their names."""

    def __init__(self, board, visit=None):
        if visit not in (None, "up", "down"):
            raise BadVisit(visit)
        self.board = board
        self.visit = visit
        # A change puts a new dict here, so that who iterates over the desk meanwhile goes on.
        self._handlers = {}
        self._done = 0

    def __setitem__(self, at, worth):
        if not is_name(at):
            raise BadName(at)
        self._handlers = {**self._handlers, at: worth}

    def __getitem__(self, at):
        if at not in self:
            raise NoHandler(at)
        return self._handlers[at]

    def __contains__(self, x):
        return isinstance(x, str) and x in self._handlers

    def __len__(self):
        return len(self._handlers)

    def __iter__(self):
        return iter(self._handlers)

    @property
    def done(self):
        """The number of calls that were carried out."""
        return self._done

    def call(self, name, **arguments):
        """Carries out a call of the handler with that name."""
        self._carry_out(name, arguments)

    def run(self, calls):
        """Carries out calls, each a tuple (name, arguments), one after another: all of them or none."""
        before = {row: self.board.at(row) for row in self.board}
        done = self._done
        for index, (name, arguments) in enumerate(calls):
            reason = self._tried(name, arguments)
            if reason is not None:
                bring(self.board, {row: self.board.at(row) for row in self.board}, before)
                self._done = done
                raise CallFailed(index, reason)

    def renumber(self, lst):
        """Gives the rows of a list the places 1, 2, .. in its order."""
        rows = self.board.rows_of(lst)
        for place, row in enumerate(rows, start=1):
            self.board[lst, place] = row

    def _tried(self, name, arguments):
        """Carries out a call, or tells why it cannot be carried out; None if it was."""
        try:
            self._carry_out(name, arguments)
        except NoHandler as missing:
            return ("handler", missing.name)
        except BadCall as bad:
            return ("call", bad.argument)
        except Clash as met:
            return ("clash", met.step, met.row, met.other)
        return None

    def _carry_out(self, name, arguments):
        handler = self[name]
        x, y, to, k = [arguments.get(word) for word in ("x", "y", "to", "k")]
        handler(self.board, x, y, to, k, self.visit)
        self._done = self._done + 1
