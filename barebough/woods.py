"""Woods: trees whose cells have layers, which are plucked one by one."""

from barebough.errors import LastCell, NotLive, WrongLength
from barebough.fates import kept
from barebough.orders import first_keeps_changed, last_raids_changed
from barebough.pieces import branches_at, forest_lists, piece_from
from barebough.sizes import normal


class Wood:
    """One or more trees with the cells 0 to size-1, each with its layers. It never changes."""

    def __init__(self, size, links, layers):
        self.size = size
        self._near = forest_lists(size, links)
        self._layers = list(layers)

    def total(self):
        """Return the number of all layers."""
        return sum(self._layers)

    def layers(self):
        """Return the numbers of layers of all cells."""
        return list(self._layers)

    def spares(self, cell):
        """Return the number of layers of the trees that the cell does not belong to."""
        return self.total() - layers_of(self._layers, self.tree_of(cell))

    def layer_sizes(self, cell):
        """Return the size list of the numbers of layers in the branches of the cell."""
        return normal([layers_of(self._layers, branch) for branch in self.live_branches(self._layers, cell)])

    def loose(self, left):
        """Return the live cells with at most one live neighbour if so many layers are left."""
        return [cell for cell in range(self.size) if left[cell] and self._live_near(left, cell) <= 1]

    def tree_of(self, cell):
        """Return the cells of the tree of the cell."""
        return piece_from(self._near, cell, [True] * self.size)

    def live_branches(self, left, cell):
        """Return the pieces of the other live cells of the tree, by their neighbours of the cell."""
        return branches_at(self._near, cell, [layers > 0 for layers in left])

    def _live_near(self, left, cell):
        return len([other for other in self._near[cell] if left[other]])


def struck(order, *, spares=0, layers=1):
    """Return what is left of the order without the first letters K and the last letters R, or None."""
    if order.count("K") < spares:
        return None
    return last_raids_changed(first_keeps_changed(order, spares, ""), layers - 1, "")


def wood_kept(wood, cell, order):
    """Tell whether Keeper can play so that the layer that is left belongs to the cell."""
    if len(order) != wood.total() - 1:
        raise WrongLength(len(order), wood.total() - 1)
    rest = struck(order, spares=wood.spares(cell), layers=wood.layers()[cell])
    if rest is None:
        return False
    # Without letters R the rest may be longer than what the branches have.
    return "R" not in rest or kept(wood.layer_sizes(cell), rest)


def wood_keeper_pluck(wood, left, cell):
    """Return the lowest loose cell of the other trees, or else in a branch with the most layers."""
    _need_layers(left, cell)
    home = wood.tree_of(cell)
    spare = [other for other in wood.loose(left) if other not in home]
    if spare:
        return spare[0]
    branches = wood.live_branches(left, cell)
    if not branches:
        return cell
    weights = [layers_of(left, branch) for branch in branches]
    return _lowest_loose(wood, left, branches[weights.index(max(weights))])


def wood_raider_pluck(wood, left, cell):
    """Return the named cell if it is loose, or else the lowest loose cell in a branch with the fewest layers."""
    _need_layers(left, cell)
    branches = wood.live_branches(left, cell)
    if len(branches) <= 1:
        return cell
    weights = [layers_of(left, branch) for branch in branches]
    return _lowest_loose(wood, left, branches[weights.index(min(weights))])


def layers_of(layers, cells):
    """Return the number of the layers of some cells."""
    return sum([layers[cell] for cell in cells])


def _need_layers(left, cell):
    """Raise an error if the cell is not live or has the only layer that is left."""
    if not left[cell]:
        raise NotLive(cell)
    if sum(left) == 1:
        raise LastCell(cell)


def _lowest_loose(wood, left, branch):
    return min([cell for cell in wood.loose(left) if cell in branch])
