"""Webs: cells that are joined by links, which may form rings."""

from barebough.errors import BadTree, NotSound
from barebough.fates import kept
from barebough.pieces import marked, piece_from, piece_sizes, pieces_of


class Web:
    """A web with the cells 0 to size-1. It never changes."""

    def __init__(self, size, links):
        self.size = size
        self._near = _web_lists(size, links)

    def neighbours(self, cell):
        """Return the cells that a link joins to the cell."""
        return list(self._near[cell])

    def loose(self, live):
        """Return those of the live cells without which the other ones are in one piece."""
        return [cell for cell in sorted(live) if len(self._formed_without(live, cell)) <= 1]

    def pieces(self, cell):
        """Return the pieces that the other cells form, in ascending order of their lowest cells."""
        return self._formed_without(list(range(self.size)), cell)

    def sizes(self, cell):
        """Return the size list of the cell."""
        return piece_sizes(self.pieces(cell))

    def blocks(self):
        """Return all blocks in ascending order, each the cells of links that belong together."""
        cells = {}
        for (low, high), mark in self._link_marks().items():
            cells[mark] = cells.get(mark, []) + [low, high]
        return sorted([sorted(set(block)) for block in cells.values()])

    def is_sound(self):
        """Tell whether in each block every two cells are neighbours."""
        # A path from neighbour to neighbour of a cell in one of its pieces closes a ring, so
        # they stand in one block; and a block that lacks a link has such a pair around a cell.
        return all(self._unjoined_pair(cell) is None for cell in range(self.size))

    def flaw(self):
        """Return what shows that the web is not sound: (cell, first, second, plan, order), or None."""
        for cell in range(self.size):
            pair = self._unjoined_pair(cell)
            if pair is not None:
                plan = self._plan(cell, pair)
                order = "K" * len(plan) + "R" * len(self.pieces(cell)) + "K"
                return cell, pair[0], pair[1], plan, order
        return None

    def _formed_without(self, live, cell):
        """Return the pieces that the live cells other than the cell form."""
        return pieces_of(self._near, marked(self.size, [other for other in live if other != cell]))

    def _doors(self, cell):
        """Return for each piece of the cell the neighbours of the cell in it."""
        return [[other for other in self._near[cell] if other in piece] for piece in self.pieces(cell)]

    def _unjoined_pair(self, cell):
        """Return the lowest pair of neighbours of the cell in one piece that no link joins, or None."""
        pairs = [(first, second) for doors in self._doors(cell) for first in doors for second in doors
                 if first < second and second not in self._near[first]]
        return min(pairs, default=None)

    def _plan(self, cell, pair):
        """Return the cells that Keeper plucks before the pair and one door to each other piece are left."""
        stay = [cell, pair[0], pair[1]] + [doors[0] for doors in self._doors(cell) if pair[0] not in doors]
        live = list(range(self.size))
        plan = []
        while len(live) > len(stay):
            plan.append([other for other in self.loose(live) if other not in stay][0])
            live.remove(plan[-1])
        return plan

    def _link_marks(self):
        """Return a mark for each link, equal for two links exactly if they belong together."""
        links = [(low, high) for low in range(self.size) for high in self._near[low] if low < high]
        marks = {link: index for index, link in enumerate(links)}
        for cell in range(self.size):
            for doors in self._doors(cell):
                # A path in the piece joins the doors, so their links to the cell share rings.
                shared = [marks[(min(cell, door), max(cell, door))] for door in doors]
                marks = {link: shared[0] if mark in shared else mark for link, mark in marks.items()}
        return marks


def web_kept(web, cell, order):
    """Tell whether a cell of a sound web is kept under the order."""
    if not web.is_sound():
        raise NotSound()
    return kept(web.sizes(cell), order)


def _web_lists(size, links):
    """Return the neighbours of every cell in ascending order, or raise BadTree."""
    near = [[] for _ in range(size)]
    for index, (one, other) in enumerate(links):
        if not (0 <= one < size and 0 <= other < size) or one == other or other in near[one]:
            raise BadTree(index)
        near[one].append(other)
        near[other].append(one)
    if len(piece_from(near, 0, [True] * size)) < size:
        raise BadTree(len(links))
    return [sorted(cells) for cells in near]
