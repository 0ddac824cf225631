"""Regions: cells of a tree in one piece, of which Keeper wants one to be left at the end."""

from barebough.errors import LastCell, NotRegion, OutOfRange, WrongLength
from barebough.fates import kept
from barebough.guides import lowest_tip
from barebough.orders import last_raids_changed
from barebough.pieces import marked, neighbour_lists, piece_sizes, pieces_of
from barebough.sizes import glue


def outer_sizes(tree, region):
    """Return the numbers of cells of the pieces outside of the region."""
    need_region(tree, region)
    return piece_sizes(_outer_pieces(tree, region, list(range(tree.size))))


def region_fate(tree, region, order):
    """Return "held", "stripped" or "open": what is known of the region under a full order."""
    outer = outer_sizes(tree, region)
    if len(order) != tree.size - 1:
        raise WrongLength(len(order), tree.size - 1)
    further = len(region) - 1
    if order.count("R") <= further or kept(glue(outer, [1] * further), order):
        return "held"
    if kept(outer, last_raids_changed(order, further, "")):
        return "open"
    return "stripped"


def strongholds(tree, turns):
    """Return what a region needs to be held under the full fair orders with so many letters K."""
    if not 0 <= turns <= tree.size - 1:
        raise OutOfRange(turns)
    lists = tree.all_sizes()
    keep = [cell for cell, sizes in enumerate(lists) if not sizes or sizes[0] <= turns]
    if keep:
        return "keep", keep
    # A link to a branch of so many cells has all other cells of the tree on its other side.
    beyond = tree.size - turns
    return "backbone", [cell for cell, sizes in enumerate(lists) if any(turns < many < beyond for many in sizes)]


def region_keeper_pluck(board, region):
    """Return the lowest live tip in a largest outer piece, or on the board if there is none."""
    outer = _live_outer_pieces(board, region)
    if not outer:
        return board.tips()[0]
    # The pieces stand in the order of their lowest cells; the first one decides.
    return lowest_tip(board, max(outer, key=len))


def region_raider_pluck(board, region):
    """Return the lowest live tip in a smallest outer piece, or in the region if there is no choice."""
    outer = _live_outer_pieces(board, region)
    if len(outer) <= 1:
        return lowest_tip(board, region)
    return lowest_tip(board, min(outer, key=len))


def need_region(tree, region):
    """Raise NotRegion if the cells do not form one piece of the tree."""
    formed = pieces_of(neighbour_lists(tree), marked(tree.size, region))
    if len(formed) != 1:
        raise NotRegion(len(formed))


def _live_outer_pieces(board, region):
    """Return the outer pieces of the live cells, or raise an error if there is nothing to pluck."""
    need_region(board.tree, region)
    if not any([board.is_live(cell) for cell in region]):
        raise NotRegion(0)
    live = board.live()
    if len(live) == 1:
        raise LastCell(live[0])
    return _outer_pieces(board.tree, region, live)


def _outer_pieces(tree, region, cells):
    """Return the pieces that those of the cells form that are not in the region."""
    inside = marked(tree.size, region)
    outside = [cell for cell in cells if not inside[cell]]
    return pieces_of(neighbour_lists(tree), marked(tree.size, outside))
