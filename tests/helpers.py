"""What the tests compare the program with: size lists, orders and plays, found one by one.

Nothing here uses the package, so that a fault of the package cannot hide itself.
"""

from functools import lru_cache
from itertools import product


def size_lists(total, most=None):
    """Return all size lists with a sum, in descending order."""
    if total == 0:
        return [[]]
    top = total if most is None else min(total, most)
    return [[first] + rest for first in range(top, 0, -1) for rest in size_lists(total - first, first)]


def spoil(value):
    """Change a list and the lists inside it, as a careless caller may."""
    if isinstance(value, list):
        for inner in value:
            spoil(inner)
        value.append(99)


def orders(turns):
    """Return all orders of so many turns in alphabetical order."""
    return ["".join(letters) for letters in product("KR", repeat=turns)]


def top_sum(sizes, count):
    return sum(sizes[:count])


def safe(first, second):
    """Tell whether the first list is as safe as the second, as point 14 says it."""
    return all(top_sum(first, k) <= top_sum(second, k) for k in range(sum(first) + 1))


def meets(sizes, goal):
    """Tell whether a size list keeps to the bounds of a goal."""
    return all(top_sum(sizes, k + 1) <= bound for k, bound in enumerate(goal))


def lowered(sizes):
    """Return all size lists that one pluck off a branch can lead to."""
    found = set()
    for place, entry in enumerate(sizes):
        rest = sizes[:place] + sizes[place + 1:]
        found.add(tuple(sorted(rest + ((entry - 1,) if entry > 1 else ()), reverse=True)))
    return found


@lru_cache(maxsize=None)
def _game(sizes, order, goal):
    if not order:
        return goal is None or meets(sizes, goal)
    results = [_game(after, order[1:], goal) for after in lowered(sizes)]
    if order[0] == "K":
        return any(results)
    return len(sizes) > 1 and all(results)


def game_keeps(sizes, order, goal=None):
    """Tell whether Keeper wins when both sides try every pluck."""
    return _game(tuple(sizes), order, None if goal is None else tuple(goal))


def plain_keeps(sizes, order):
    """Tell whether the named cell lives in the plain play of point 44."""
    entries = list(sizes)
    for letter in order:
        if letter == "R" and len(entries) <= 1:
            return False
        place = 0 if letter == "K" else len(entries) - 1
        entries[place] -= 1
        entries = sorted((entry for entry in entries if entry), reverse=True)
    return True


def kept_lists(order):
    """Return the size lists that the order keeps as a full order, by plain play."""
    return [sizes for sizes in size_lists(len(order)) if plain_keeps(sizes, order)]


def cell_kept(links, cells, cell, order):
    """Tell whether Keeper wins on a tree when both sides try every live tip."""
    if cell not in cells:
        return False
    if not order:
        return True
    tips = [one for one in cells if sum(one in link for link in links) <= 1]
    results = []
    for tip in tips:
        left = tuple(link for link in links if tip not in link)
        results.append(cell_kept(left, cells - {tip}, cell, order[1:]))
    return any(results) if order[0] == "K" else all(results)
