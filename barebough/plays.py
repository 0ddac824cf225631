"""Plays, in which both sides pluck turn by turn."""

from barebough.boards import Board
from barebough.errors import BadOrder, NothingToUndo, PlayOver
from barebough.guides import keeper_pluck, raider_pluck
from barebough.rows import fits, free_row, tail_rows


class Play:
    """A play on a tree with a named cell."""

    def __init__(self, tree, cell):
        self._board = Board(tree)
        self._cell = cell
        self._turns = []
        # The size lists before the first turn and after each turn, None once the cell fell.
        self._stages = [tree.sizes(cell)]

    def __iter__(self):
        return iter(self._turns)

    def turn(self, letter, cell):
        """Pluck the cell for the side that the letter names."""
        self._need_turn(letter)
        self._board.pluck(cell)
        self._turns.append((letter, cell))
        self._stages.append(None if cell == self._cell else self._board.sizes(self._cell))

    def undo(self):
        """Take the last turn back, and return its letter and cell."""
        if not self._turns:
            raise NothingToUndo()
        self._board.restore()
        self._stages.pop()
        return self._turns.pop()

    def advice(self, letter):
        """Return what the guide of the side plucks."""
        self._need_turn(letter)
        if letter == "K":
            return keeper_pluck(self._board, self._cell)
        return raider_pluck(self._board, self._cell)

    def order(self):
        """Return the letters of the turns."""
        return "".join([letter for letter, _ in self._turns])

    def sizes(self):
        """Return the size list of the named cell, or None if it has been plucked."""
        sizes = self._stages[-1]
        return None if sizes is None else list(sizes)

    def live(self):
        """Return the live cells."""
        return self._board.live()

    def is_over(self):
        """Tell whether the named cell has been plucked or one cell is live."""
        return self.has_fallen() or len(self.live()) == 1

    def has_fallen(self):
        """Tell whether the named cell has been plucked."""
        return not self._board.is_live(self._cell)

    def slips(self):
        """Return the index and the letter of each turn that changes the fate."""
        # No side can better its own fate by a turn, so every change is a slip of its side.
        fates = self._fates()
        changed = [before != after for before, after in zip(fates, fates[1:])]
        return [(index, letter) for index, (letter, _) in enumerate(self._turns) if changed[index]]

    def _fates(self):
        """Tell for each stage whether the named cell is kept under the letters that follow."""
        left = len(self._board.live()) - 1
        rows = tail_rows(self.order(), goal=free_row(left))
        return [sizes is not None and fits(sizes, row) for sizes, row in zip(self._stages, rows)]

    def _need_turn(self, letter):
        if letter not in ("K", "R"):
            raise BadOrder(0)
        if self.is_over():
            raise PlayOver()
