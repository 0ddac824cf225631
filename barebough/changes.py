"""Changes: the fewest moves of cells, and the letters of an order, that change a fate."""

from barebough.errors import NotKept
from barebough.fates import kept
from barebough.orders import first_keeps_changed, last_raids_changed
from barebough.rows import due_goal, fits, need_turns, pull, some_list_fits
from barebough.sizes import grown_safest, take_largest


def mend(sizes, order):
    """Return the size lists from this one to a kept one by the fewest moves, or None."""
    row = _due_row(sizes, order)
    if not some_list_fits(row):
        return None
    found = [list(sizes)]
    while not fits(found[-1], row):
        found.append(grown_safest(take_largest(found[-1]), 1))
    return found


def mend_tree(tree, cell, order):
    """Return the tips that are moved to the cell until it is kept, and the tree at the end, or None."""
    row = _due_row(tree.sizes(cell), order)
    if not some_list_fits(row):
        return None
    tips = []
    mended = tree
    while not fits(mended.sizes(cell), row):
        # Branches stand in the order of their neighbours of the cell; the first one decides.
        branch = max(mended.branches(cell), key=len)
        tip = min([one for one in mended.tips() if one in branch])
        mended = mended.moved(tip, cell)
        tips.append(tip)
    return tips, mended


def gifts(sizes, order):
    """Return the least number of letters R to change so that the size list is kept, and the changed order."""
    need_turns(len(order), sum(sizes))
    # Each further gift keeps what was kept, so the search may halve the range.
    low, high = 0, order.count("R")
    while low < high:
        middle = (low + high) // 2
        if kept(sizes, last_raids_changed(order, middle, "K")):
            high = middle
        else:
            low = middle + 1
    return low, last_raids_changed(order, low, "K")


def spare_turns(sizes, order):
    """Return the greatest number of letters K to change so that the list is still kept, and the changed order."""
    if not kept(sizes, order):
        raise NotKept()
    low, high = 0, order.count("K")
    while low < high:
        middle = (low + high + 1) // 2
        if kept(sizes, first_keeps_changed(order, middle, "R")):
            low = middle
        else:
            high = middle - 1
    return low, first_keeps_changed(order, low, "R")


def _due_row(sizes, order):
    """Return the row that the order turns the free goal of a size list into."""
    return pull(order, goal=due_goal(sizes, len(order), None))
