"""The pieces that cells form when others are taken out.

Here `near` is the list of the neighbours of every cell, and `free` has a truth
value for every cell: True if the cell may be walked on.
"""


def piece_from(near, start, free):
    """Return the cells that can be reached from a free cell, in ascending order."""
    left = list(free)
    left[start] = False
    waiting = [start]
    found = []
    while waiting:
        cell = waiting.pop()
        found.append(cell)
        for other in near[cell]:
            if left[other]:
                left[other] = False
                waiting.append(other)
    return sorted(found)


def branches_at(near, cell, free):
    """Return the pieces of the other free cells, one for each free neighbour of the cell."""
    others = list(free)
    others[cell] = False
    return [piece_from(near, start, others) for start in near[cell] if others[start]]


def piece_sizes(pieces):
    """Return the size list of the numbers of cells in the pieces."""
    return sorted([len(piece) for piece in pieces], reverse=True)
