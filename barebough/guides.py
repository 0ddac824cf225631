"""Guides: what a side plucks on a board with a named cell."""

from barebough.errors import LastCell


def keeper_pluck(board, cell):
    """Return the lowest live tip in a largest branch of the named cell."""
    # Branches stand in the order of their neighbours of the cell; the first one decides.
    return lowest_tip(board, max(_some_branches(board, cell), key=len))


def raider_pluck(board, cell):
    """Return the named cell if it is a tip, otherwise the lowest live tip in a smallest branch."""
    branches = _some_branches(board, cell)
    if len(branches) == 1:
        return cell
    return lowest_tip(board, min(branches, key=len))


def lowest_tip(board, cells):
    """Return the lowest live tip of the board that is one of the cells."""
    return min([tip for tip in board.tips() if tip in cells])


def _some_branches(board, cell):
    """Return the branches of a live cell, or raise LastCell if there are none."""
    branches = board.branches(cell)
    if not branches:
        raise LastCell(cell)
    return branches
