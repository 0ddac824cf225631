"""Trees of cells that are joined by links."""

from barebough.errors import BadTree, LastCell, NotTip
from barebough.pieces import branches_at, forest_lists, piece_sizes


class Tree:
    """A tree with the cells 0 to size-1. It never changes."""

    def __init__(self, size, links):
        self.size = size
        self._near = forest_lists(size, links)
        # Each good link joins two pieces, so fewer than size-1 of them leave several.
        if len(links) < size - 1:
            raise BadTree(len(links))

    def links(self):
        """Return all links as tuples (lower cell, higher cell), in ascending order."""
        return [(low, high) for low in range(self.size) for high in self._near[low] if low < high]

    def neighbours(self, cell):
        """Return the cells that a link joins to the cell."""
        return list(self._near[cell])

    def tips(self):
        """Return the cells with at most one neighbour."""
        return [cell for cell in range(self.size) if len(self._near[cell]) <= 1]

    def branches(self, cell):
        """Return the pieces that are left without the cell, by their neighbours of the cell."""
        return branches_at(self._near, cell, [True] * self.size)

    def sizes(self, cell):
        """Return the size list of the cell."""
        return piece_sizes(self.branches(cell))

    def all_sizes(self):
        """Return the size lists of all cells, in the order of the cells."""
        sizes = [[] for _ in range(self.size)]
        counts = [1] * self.size
        for cell, above in self._steps_from_first()[::-1]:
            # All cells below this one are counted by now; the others are its branch above.
            sizes[cell].append(self.size - counts[cell])
            sizes[above].append(counts[cell])
            counts[above] = counts[above] + counts[cell]
        return [sorted(entries, reverse=True) for entries in sizes]

    def path(self, start, end):
        """Return the cells of the path from start to end, both included."""
        # The walk begins at the end, so each cell learns its next one towards the end.
        onward = {end: end}
        waiting = [end]
        while waiting:
            cell = waiting.pop()
            for other in self._near[cell]:
                if other not in onward:
                    onward[other] = cell
                    waiting.append(other)
        found = [start]
        while found[-1] != end:
            found.append(onward[found[-1]])
        return found

    def grafted(self, cell):
        """Return the tree with one more cell, joined to the cell."""
        return Tree(self.size + 1, self.links() + [(cell, self.size)])

    def plucked(self, tip):
        """Return the tree without the tip; greater cell numbers decrease by one."""
        if self.size == 1:
            raise LastCell(tip)
        links = [(_closed_up(low, tip), _closed_up(high, tip)) for low, high in self._links_without(tip)]
        return Tree(self.size - 1, links)

    def moved(self, tip, cell):
        """Return the tree in which the tip is joined to another cell; the numbers stay."""
        return Tree(self.size, self._links_without(tip) + [(tip, cell)])

    def _steps_from_first(self):
        """Return each other cell than 0 with the one that a walk from 0 reaches it from, in its order."""
        steps = []
        waiting = [(0, 0)]
        while waiting:
            cell, above = waiting.pop()
            if cell != above:
                steps.append((cell, above))
            waiting.extend([(other, cell) for other in self._near[cell] if other != above])
        return steps

    def _links_without(self, tip):
        if len(self._near[tip]) > 1:
            raise NotTip(tip)
        return [(low, high) for low, high in self.links() if tip not in (low, high)]


def _closed_up(cell, gone):
    """Return the number of a cell after another one has been left out."""
    return cell - 1 if cell > gone else cell
