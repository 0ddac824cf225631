"""Spread: how many orders keep the cells of a tree."""

from barebough.classes import orders_with_rows
from barebough.rows import fits
from barebough.tallies import count_orders


def spread(tree):
    """Return for each cell the number of full orders under which it is kept."""
    counts = {}
    found = []
    for sizes in tree.all_sizes():
        known = tuple(sizes)
        if known not in counts:
            counts[known] = count_orders(sizes)
        found.append(counts[known])
    return found


def keeping_some(tree):
    """Return the number of full orders under which at least one cell is kept."""
    lists = sorted(set([tuple(sizes) for sizes in tree.all_sizes()]))
    rows = [row for _, row in orders_with_rows(tree.size - 1)]
    return len([row for row in rows if any(fits(sizes, row) for sizes in lists)])
