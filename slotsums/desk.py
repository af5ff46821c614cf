"""The desk: tables, definitions, sizes and entries, on which commands are performed."""

from slotsums.commands import empty_holding, performed_all
from slotsums.errors import NothingToUndo


class Desk:
    """A desk; of all objects of the package it alone changes."""

    def __init__(self):
        self._steps = []

    def _held(self):
        """What the desk holds now."""
        return self._steps[-1][1] if self._steps else empty_holding()

    def do(self, command):
        """Perform a command; the answer."""
        return self.do_all([command])[0]

    def do_all(self, commands):
        """Perform commands; the list of the answers. If one raises an error, none has effect."""
        answers, steps = performed_all(self._held(), commands)
        self._steps = self._steps + steps
        return answers

    def undo(self):
        """Take back the last command that answered `done`."""
        if not self._steps:
            raise NothingToUndo()
        self._steps = self._steps[:-1]

    def log(self):
        """The list of the commands that answered `done` and were not taken back."""
        return [command for command, held in self._steps]

    def tried(self, commands):
        """The list of the answers that commands would have, without effect."""
        return performed_all(self._held(), commands)[0]

    def __eq__(self, other):
        return isinstance(other, Desk) and self.log() == other.log()
