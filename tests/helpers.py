"""What the tests compare the program with: size lists, orders and plays, found one by one.

Nothing here uses the package, so that a fault of the package cannot hide itself.
"""

from functools import lru_cache
from itertools import product


def size_lists(total, most=None):
    """Return all size lists with a sum, in descending order."""
    if total == 0:
        return [[]]
    top = total if most is None else min(total, most)
    return [[first] + rest for first in range(top, 0, -1) for rest in size_lists(total - first, first)]


def spoil(value):
    """Change a list and the lists inside it, as a careless caller may."""
    if isinstance(value, list):
        for inner in value:
            spoil(inner)
        value.append(99)


def orders(turns):
    """Return all orders of so many turns in alphabetical order."""
    return ["".join(letters) for letters in product("KR", repeat=turns)]


def top_sum(sizes, count):
    return sum(sizes[:count])


def safe(first, second):
    """Tell whether the first list is as safe as the second, as point 14 says it."""
    return all(top_sum(first, k) <= top_sum(second, k) for k in range(sum(first) + 1))


def meets(sizes, goal):
    """Tell whether a size list keeps to the bounds of a goal."""
    return all(top_sum(sizes, k + 1) <= bound for k, bound in enumerate(goal))


def lowered(sizes):
    """Return all size lists that one pluck off a branch can lead to."""
    found = set()
    for place, entry in enumerate(sizes):
        rest = sizes[:place] + sizes[place + 1:]
        found.add(tuple(sorted(rest + ((entry - 1,) if entry > 1 else ()), reverse=True)))
    return found


@lru_cache(maxsize=None)
def _game(sizes, order, goal):
    if not order:
        return goal is None or meets(sizes, goal)
    results = [_game(after, order[1:], goal) for after in lowered(sizes)]
    if order[0] == "K":
        return any(results)
    return len(sizes) > 1 and all(results)


def game_keeps(sizes, order, goal=None):
    """Tell whether Keeper wins when both sides try every pluck."""
    return _game(tuple(sizes), order, None if goal is None else tuple(goal))


def plain_keeps(sizes, order):
    """Tell whether the named cell lives in the plain play of point 44."""
    entries = list(sizes)
    for letter in order:
        if letter == "R" and len(entries) <= 1:
            return False
        place = 0 if letter == "K" else len(entries) - 1
        entries[place] -= 1
        entries = sorted((entry for entry in entries if entry), reverse=True)
    return True


def kept_lists(order):
    """Return the size lists that the order keeps as a full order, by plain play."""
    return [sizes for sizes in size_lists(len(order)) if plain_keeps(sizes, order)]


def cell_kept(links, cells, cell, order):
    """Tell whether Keeper wins on a tree when both sides try every live tip."""
    if cell not in cells:
        return False
    if not order:
        return True
    tips = [one for one in cells if sum(one in link for link in links) <= 1]
    results = []
    for tip in tips:
        left = tuple(link for link in links if tip not in link)
        results.append(cell_kept(left, cells - {tip}, cell, order[1:]))
    return any(results) if order[0] == "K" else all(results)


def step_row(letter, row):
    """Return the row for one more turn in front, by the words of point 29."""
    total = len(row) + 1
    b = [None] + [min(bound, total - 1) for bound in row] + [total - 1]
    if letter == "K":
        return [b[1] + 1] + [min(b[k] + 1, b[k - 1] + 1 + b[k - 1] // (k - 1)) for k in range(2, total + 1)]
    stepped = [b[k] if b[k] < total - 1 else total for k in range(1, total + 1)]
    return [min(stepped[0], total - 1)] + stepped[1:]


def random_links(rng, size):
    """Return the links of a tree whose cells are numbered and joined at random."""
    names = list(range(size))
    rng.shuffle(names)
    return [(names[cell], names[rng.randrange(cell)]) for cell in range(1, size)]


def random_sizes(rng, total, most=None):
    """Return a size list with a sum, drawn at random."""
    entries = []
    while sum(entries) < total:
        left = total - sum(entries)
        entries.append(rng.randint(1, min(left, most or left)))
    return sorted(entries, reverse=True)


# Scripts as the tests write them: a list of items, each of them "K", "R",
# ("demand", pairs), ("group", items), ("choice", lists of items) or ("times", count, item).

def script_text(items):
    """Return the text of a script."""
    return "".join(_item_text(item) for item in items)


def _item_text(item):
    if item in ("K", "R"):
        return item
    if item[0] == "demand":
        return "{" + ",".join(f"{k}:{bound}" for k, bound in item[1]) + "}"
    if item[0] == "group":
        return "(" + script_text(item[1]) + ")"
    if item[0] == "choice":
        return "[" + "|".join(script_text(items) for items in item[1]) + "]"
    return str(item[1]) + _item_text(item[2])


def script_runs(items):
    """Return all runs of a script, each a list of letters and demands, in the order of point 42."""
    if not items:
        return [[]]
    first, rest = items[0], items[1:]
    if first in ("K", "R") or first[0] == "demand":
        return [[first] + run for run in script_runs(rest)]
    if first[0] == "group":
        return script_runs(first[1] + rest)
    if first[0] == "choice":
        return [run for part in first[1] for run in script_runs(part + rest)]
    return script_runs([first[2]] * first[1] + rest)


def script_length(items):
    """Return the length of a script, by the words of point 36."""
    total = 0
    for item in items:
        if item in ("K", "R") or item[0] == "demand":
            total += 1
        elif item[0] == "group":
            total += script_length(item[1])
        elif item[0] == "choice":
            total += 1 + sum(script_length(part) for part in item[1])
        else:
            total += item[1] * script_length([item[2]])
    return total


def script_turns(items):
    """Return the number of turns of a script, by the words of point 36."""
    total = 0
    for item in items:
        if item in ("K", "R"):
            total += 1
        elif item[0] == "group":
            total += script_turns(item[1])
        elif item[0] == "choice":
            total += script_turns(item[1][0])
        elif item[0] == "times":
            total += item[1] * script_turns([item[2]])
    return total


def script_keeps(sizes, items, goal=None):
    """Tell whether Keeper wins a script when both sides try every pluck and Raider every choice."""
    if not items:
        return goal is None or meets(sizes, goal)
    first, rest = items[0], items[1:]
    if first == "K":
        return any(script_keeps(after, rest, goal) for after in lowered(tuple(sizes)))
    if first == "R":
        return len(sizes) > 1 and all(script_keeps(after, rest, goal) for after in lowered(tuple(sizes)))
    if first[0] == "demand":
        return all(top_sum(sizes, k) <= bound for k, bound in first[1]) and script_keeps(sizes, rest, goal)
    if first[0] == "group":
        return script_keeps(sizes, first[1] + rest, goal)
    if first[0] == "choice":
        return all(script_keeps(sizes, part + rest, goal) for part in first[1])
    return script_keeps(sizes, [first[2]] * first[1] + rest, goal)


def random_script(rng, turns, depth=3):
    """Return the items of a script with so many turns, drawn at random; at least one item."""
    items = []
    left = turns
    while left or not items:
        if rng.random() < 0.3 or not left:
            items.append(_random_demand(rng))
        if not left:
            continue
        part = rng.randint(1, left)
        kind = rng.choice(["letter", "letter", "group", "choice", "times"] if depth else ["letter"])
        if kind == "letter":
            part = 1
            items.append(rng.choice("KR"))
        elif kind == "group":
            items.append(("group", random_script(rng, part, depth - 1)))
        elif kind == "choice":
            part = rng.randint(0, part)
            items.append(_random_choice(rng, part, depth - 1))
        else:
            count = rng.randint(2, 3)
            each = left // count
            part = count * each
            inner = rng.choice([("group", random_script(rng, each, depth - 1)), _random_choice(rng, each, depth - 1)])
            items.append(("times", count, inner))
        left -= part
    return items


def _random_demand(rng):
    count = rng.randint(1, 3)
    places = sorted(rng.sample(range(1, 8), count))
    return "demand", [(k, rng.randint(k // 2, 7)) for k in places]


def _random_choice(rng, turns, depth):
    return "choice", [random_script(rng, turns, depth) for _ in range(rng.randint(2, 3))]
