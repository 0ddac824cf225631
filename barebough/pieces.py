"""The pieces that cells form when others are taken out.

Here `near` is the list of the neighbours of every cell, and `free` has a truth
value for every cell: True if the cell may be walked on.
"""

from barebough.errors import BadTree


def forest_lists(size, links):
    """Return the neighbours of every cell in ascending order, or raise BadTree for a bad link."""
    near = [[] for _ in range(size)]
    # Two cells have the same mark exactly if the links so far join them by a path.
    marks = list(range(size))
    for index, (one, other) in enumerate(links):
        if not (0 <= one < size and 0 <= other < size) or marks[one] == marks[other]:
            raise BadTree(index)
        old, new = marks[other], marks[one]
        marks = [new if mark == old else mark for mark in marks]
        near[one].append(other)
        near[other].append(one)
    return [sorted(cells) for cells in near]


def piece_from(near, start, free):
    """Return the cells that can be reached from a free cell, in ascending order."""
    left = list(free)
    left[start] = False
    waiting = [start]
    found = []
    while waiting:
        cell = waiting.pop()
        found.append(cell)
        for other in near[cell]:
            if left[other]:
                left[other] = False
                waiting.append(other)
    return sorted(found)


def pieces_of(near, free):
    """Return the pieces that the free cells form, in ascending order of their lowest cells."""
    left = list(free)
    found = []
    for start in range(len(near)):
        if left[start]:
            piece = piece_from(near, start, left)
            found.append(piece)
            for cell in piece:
                left[cell] = False
    return found


def branches_at(near, cell, free):
    """Return the pieces of the other free cells, one for each free neighbour of the cell."""
    others = list(free)
    others[cell] = False
    return [piece_from(near, start, others) for start in near[cell] if others[start]]


def neighbour_lists(tree):
    """Return the neighbours of every cell of a tree."""
    return [tree.neighbours(cell) for cell in range(tree.size)]


def marked(size, cells):
    """Return a truth value for every cell: whether it is one of the given cells."""
    marks = [False] * size
    for cell in cells:
        marks[cell] = True
    return marks


def piece_sizes(pieces):
    """Return the size list of the numbers of cells in the pieces."""
    return sorted([len(piece) for piece in pieces], reverse=True)
