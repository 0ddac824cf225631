"""Fates: whether a size list or a cell is kept under an order."""

from barebough.rows import due_goal, fits, free_row, need_turns, pull
from barebough.sizes import take_largest, take_smallest


def plain_turn(sizes, letter):
    """Return the size list after a turn of the plain play, or None if the named cell falls."""
    if letter == "K":
        return take_largest(sizes)
    return take_smallest(sizes) if len(sizes) > 1 else None


def plain_play(sizes, order):
    """Return the size lists before the first turn and after each turn until the cell falls."""
    need_turns(len(order), sum(sizes))
    found = [list(sizes)]
    for letter in order:
        after = plain_turn(found[-1], letter)
        if after is None:
            break
        found.append(after)
    return found


def hour(sizes, order):
    """Return the number of the turn at which the named cell falls, or None if it lives."""
    turns = len(plain_play(sizes, order))
    return turns if turns <= len(order) else None


def kept(sizes, order, *, goal=None):
    """Tell whether the size list is kept under the order with the goal."""
    return fits(sizes, pull(order, goal=due_goal(sizes, len(order), goal)))


def kept_cells(tree, order):
    """Return the cells of a tree that are kept under the order."""
    need_turns(len(order), tree.size - 1)
    # All cells have the same sum, so one row decides about all of them.
    row = pull(order, goal=free_row(tree.size - 1 - len(order)))
    return [cell for cell, sizes in enumerate(tree.all_sizes()) if fits(sizes, row)]
