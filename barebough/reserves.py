"""Reserves: whether Keeper can save all cells of a region."""

from barebough.errors import NotLive, NotRegion, PlayOver, WrongLength
from barebough.guides import lowest_tip
from barebough.pieces import marked, neighbour_lists, piece_from
from barebough.regions import need_region


def reserves(tree, region):
    """Return the reserves of all ends in ascending order, and the number of neutral cells."""
    _need_ends(tree, region)
    hanging, neutral = _hanging_cells(tree, region, list(range(tree.size)))
    return sorted([len(cells) for _, cells in hanging]), len(neutral)


def reserve_row(order, ends):
    """Return what the sums of the least reserves must reach, for none up to all of the ends."""
    least = [0] * (ends + 1)
    for turns, letter in enumerate(order[::-1]):
        least = _keeper_row(least, turns) if letter == "K" else _raider_row(least)
    return least


def stays_whole(tree, region, order):
    """Tell whether Keeper can play so that no cell of the region is plucked."""
    found, _ = reserves(tree, region)
    if len(order) != tree.size - len(region):
        raise WrongLength(len(order), tree.size - len(region))
    row = reserve_row(order, len(found))
    return all(sum(found[:count]) >= least for count, least in enumerate(row))


def whole_keeper_pluck(board, region):
    """Return the lowest live tip that is neutral, or else at the end with the largest reserve."""
    hanging, neutral = _live_hanging_cells(board, region)
    if neutral:
        return lowest_tip(board, neutral)
    # The ends stand in ascending order; the first one decides.
    return lowest_tip(board, max([cells for _, cells in hanging], key=len))


def whole_raider_pluck(board, region):
    """Return the lowest end that is a live tip, or else the lowest tip at the end with the smallest reserve."""
    hanging, _ = _live_hanging_cells(board, region)
    for end, cells in hanging:
        if not cells:
            return end
    return lowest_tip(board, min([cells for _, cells in hanging], key=len))


def _keeper_row(least, turns):
    """Return the row with a K in front of so many turns."""
    ends = len(least) - 1
    row = list(least)
    for count in range(1, ends):
        bound = least[count]
        row[count - 1] = max(least[count - 1], bound - (turns - bound) // (ends - count))
    return row


def _raider_row(least):
    """Return the row with an R in front."""
    return least[:1] + [bound + 1 for bound in least[1:]]


def _need_ends(tree, region):
    """Raise NotRegion if the cells do not form a region of two or more cells."""
    need_region(tree, region)
    if len(region) == 1:
        raise NotRegion(1)


def _live_hanging_cells(board, region):
    """Return the hanging and the neutral live cells, or raise an error if there is nothing to pluck."""
    _need_ends(board.tree, region)
    for cell in sorted(region):
        if not board.is_live(cell):
            raise NotLive(cell)
    live = board.live()
    if len(live) == len(region):
        raise PlayOver()
    return _hanging_cells(board.tree, region, live)


def _hanging_cells(tree, region, cells):
    """Return each end, in ascending order, with those of the cells that hang at it, and the neutral ones."""
    near = neighbour_lists(tree)
    inside = marked(tree.size, region)
    free = marked(tree.size, [cell for cell in cells if not inside[cell]])
    hanging = []
    neutral = []
    for cell in sorted(region):
        found = [other for other in piece_from(near, cell, free) if other != cell]
        if len([other for other in near[cell] if inside[other]]) == 1:
            hanging.append((cell, found))
        else:
            neutral.extend(found)
    return hanging, neutral
