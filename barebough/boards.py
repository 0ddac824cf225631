"""Boards, on which the cells of a tree are plucked."""

from barebough.errors import LastCell, NotLive, NothingToUndo, NotTip
from barebough.pieces import branches_at, neighbour_lists, piece_sizes


class Board:
    """A play on a tree: live cells, and the cells that have been plucked."""

    def __init__(self, tree):
        self.tree = tree
        self._near = neighbour_lists(tree)
        self._free = [True] * tree.size
        self._gone = []

    def live(self):
        """Return the live cells."""
        return [cell for cell, free in enumerate(self._free) if free]

    def tips(self):
        """Return the live cells with at most one live neighbour."""
        return [cell for cell in self.live() if self._is_tip(cell)]

    def is_live(self, cell):
        """Tell whether the cell is live."""
        return self._free[cell]

    def branches(self, cell):
        """Return the pieces of the other live cells, by their neighbours of the cell."""
        self._need_live(cell)
        return branches_at(self._near, cell, self._free)

    def sizes(self, cell):
        """Return the size list of the cell among the live cells."""
        return piece_sizes(self.branches(cell))

    def pluck(self, cell):
        """Make a live tip dead."""
        self._need_live(cell)
        if len(self._gone) == len(self._free) - 1:
            raise LastCell(cell)
        if not self._is_tip(cell):
            raise NotTip(cell)
        self._free[cell] = False
        self._gone.append(cell)

    def restore(self):
        """Make the cell live again that was plucked last, and return it."""
        if not self._gone:
            raise NothingToUndo()
        cell = self._gone.pop()
        self._free[cell] = True
        return cell

    def plucked(self):
        """Return the cells that are plucked, in the order of their plucks."""
        return list(self._gone)

    def _need_live(self, cell):
        if not self._free[cell]:
            raise NotLive(cell)

    def _is_tip(self, cell):
        return len([other for other in self._near[cell] if self._free[other]]) <= 1
