"""The whole game on small trees and webs, played out move by move.

Like the helpers, nothing here uses the package. Live cells are frozen sets.
"""

from functools import lru_cache

from tests.helpers import random_links


def path_links(size):
    return [(cell, cell + 1) for cell in range(size - 1)]


def star_links(size):
    return [(0, cell) for cell in range(1, size)]


def shapes(size):
    """Return the links of one tree of each shape with so many cells."""
    found = {}
    parents = [[]]
    for cell in range(1, size):
        parents = [above + [one] for above in parents for one in range(cell)]
    for above in parents:
        links = [(one, cell + 1) for cell, one in enumerate(above)]
        found.setdefault(_shape(size, links), links)
    return list(found.values())


def renamed(rng, size, links):
    """Return the links after the cells have got other numbers, drawn at random."""
    names = list(range(size))
    rng.shuffle(names)
    return [(names[one], names[other]) for one, other in links]


def _shape(size, links):
    """Return what is equal for two trees exactly if they have the same shape."""
    game = Game(size, links)

    def hung(cell, above):
        return "(" + "".join(sorted(hung(other, cell) for other in game.near[cell] if other != above)) + ")"

    return min(hung(cell, None) for cell in range(size))


class Game:
    """The cells of a tree or a web; a cell may be plucked if the others then are in one piece."""

    def __init__(self, size, links):
        self.size = size
        self.near = [{one + other - cell for one, other in links if cell in (one, other)} for cell in range(size)]
        self.all = frozenset(range(size))
        self.loose = lru_cache(maxsize=None)(self._loose)

    def pieces(self, live):
        """Return the pieces that the cells form, each as a sorted list, by their lowest cells."""
        left = set(live)
        found = []
        while left:
            piece = {min(left)}
            while True:
                more = {other for cell in piece for other in self.near[cell] if other in left} - piece
                if not more:
                    break
                piece |= more
            found.append(sorted(piece))
            left -= piece
        return found

    def _loose(self, live):
        """Return the cells that may be plucked, in ascending order."""
        return [cell for cell in sorted(live) if len(self.pieces(live - {cell})) <= 1]

    def regions(self):
        """Return all sets of cells that form one piece, as sorted lists."""
        found = []
        for number in range(1, 2 ** self.size):
            cells = [cell for cell in range(self.size) if number >> cell & 1]
            if len(self.pieces(cells)) == 1:
                found.append(cells)
        return found

    def solver(self, good):
        """Return a function of the order that tells whether Keeper can end with good live cells."""
        @lru_cache(maxsize=None)
        def wins(order, live):
            if not order:
                return good(live)
            results = (wins(order[1:], live - {cell}) for cell in self.loose(live))
            return any(results) if order[0] == "K" else all(results)

        return lambda order: wins(order, self.all)

    def guided(self, side, advice, good):
        """Return a function of the order that tells which ends can be reached: {True}, {False} or both.

        At the letter of the side the advice is followed, at the other one every pluck is tried.
        An end is True if its live cells are good. What is not good never becomes good by a
        pluck, so a play is over as soon as its live cells are not good any more.
        """
        advised = lru_cache(maxsize=None)(advice)

        @lru_cache(maxsize=None)
        def ends(order, live):
            if not order or not good(live):
                return {good(live)}
            if order[0] == side:
                cell = advised(live)
                if cell not in self.loose(live):
                    raise AssertionError(f"{cell} cannot be plucked off {sorted(live)}")
                return ends(order[1:], live - {cell})
            return set().union(*(ends(order[1:], live - {cell}) for cell in self.loose(live)))

        return lambda order: ends(order, self.all)


def board_with(board, live):
    """Pluck a board down to the live cells, and return it."""
    while True:
        more = [tip for tip in board.tips() if tip not in live]
        if not more:
            return board
        board.pluck(more[0])


def random_region(rng, size, links, many):
    """Return so many cells of a tree that form one piece, in an order drawn at random."""
    near = Game(size, links).near
    cells = [rng.randrange(size)]
    while len(cells) < many:
        cells.append(rng.choice(sorted({other for cell in cells for other in near[cell]} - set(cells))))
    rng.shuffle(cells)
    return cells


def large_trees():
    """Return the sizes and links of trees with 200 cells: a path, a star, a drawn one, a comb."""
    import random
    comb = [(2 * k, 2 * k + 2) for k in range(99)] + [(2 * k, 2 * k + 1) for k in range(100)]
    return [path_links(200), star_links(200), random_links(random.Random(200), 200), comb]
