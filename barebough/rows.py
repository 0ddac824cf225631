"""Rows: bounds for the top sums of a size list."""

from barebough.errors import WrongLength
from barebough.orders import need_same_turns
from barebough.sizes import levelled, top_sums


def free_row(total):
    """Return the row for a sum that forbids nothing."""
    return [total] * total


def fits(sizes, row):
    """Tell whether no top sum of the size list is greater than its bound."""
    return first_break(sizes, row) is None


def first_break(sizes, row):
    """Return the least k whose top sum is greater than its bound, or None."""
    tops = top_sums(sizes)
    if len(row) != len(tops):
        raise WrongLength(len(row), len(tops))
    for index, top in enumerate(tops):
        if top > row[index]:
            return index + 1
    return None


def keeper_step(row):
    """Return the row for one more turn of Keeper in front."""
    bounds = _bounds_with_last(row)
    stepped = [bounds[0] + 1]
    for count, before in enumerate(bounds[:-1], start=1):
        bound = bounds[count]
        shared = before + before // count
        # A script comes here for each bound of each of its rows, and min() would be slow.
        stepped.append((bound if bound < shared else shared) + 1)
    return stepped


def raider_step(row):
    """Return the row for one more turn of Raider in front."""
    most = len(row)
    stepped = [bound if bound < most else most + 1 for bound in _bounds_with_last(row)]
    # A list of one entry leaves the named cell a tip, so Raider plucks it.
    stepped[0] = min(stepped[0], most)
    return stepped


def pull(order, *, goal=()):
    """Return the row that the order turns the goal into."""
    return tail_rows(order, goal=goal)[0]


def tail_rows(order, *, goal=()):
    """Return the rows of all tails of the order, that of the whole order first."""
    rows = [list(goal)]
    for letter in order[::-1]:
        rows.append(turn_step(letter, rows[-1]))
    return rows[::-1]


def turn_step(letter, row):
    """Return the row for one more turn of the side that the letter names."""
    return keeper_step(row) if letter == "K" else raider_step(row)


def tight(row):
    """Return the greatest top sums of the size lists that fit the row, or None."""
    if not some_list_fits(row):
        return None
    return [_greatest_top(row, piles) for piles in range(1, len(row) + 1)]


def some_list_fits(row):
    """Tell whether the safest size list, and so any list at all, fits the row."""
    return fits([1] * len(row), row)


def kinder(first, second):
    """Tell whether every size list that the second order keeps is kept under the first."""
    need_same_turns(first, second)
    reached = tight(pull(second))
    if reached is None:
        return True
    return all(top <= bound for top, bound in zip(reached, pull(first)))


def alike(first, second):
    """Tell whether the same size lists are kept under both orders."""
    need_same_turns(first, second)
    return tight(pull(first)) == tight(pull(second))


def need_turns(turns, total):
    """Raise WrongLength if there are more turns than the sum of a size list."""
    if turns > total:
        raise WrongLength(turns, total)


def due_goal(sizes, turns, goal):
    """Return the bounds of a goal for what so many turns leave of a size list."""
    total = sum(sizes)
    need_turns(turns, total)
    if goal is None:
        return free_row(total - turns)
    if len(goal) != total - turns:
        raise WrongLength(len(goal), total - turns)
    return list(goal)


def _bounds_with_last(row):
    """Return the bounds of a row for S-1, at most S-1 each, and the one for k = S."""
    most = len(row)
    return [bound if bound < most else most for bound in row] + [most]


def _greatest_top(row, piles):
    """Return the greatest H(piles) of the size lists that fit a row that some list fits."""
    # The levelled list is the safest one with its H(piles), so it fits if any such
    # list does. It is safer for a lesser H(piles), so the search may halve the range.
    low, high = piles, len(row)
    while low < high:
        middle = (low + high + 1) // 2
        if fits(levelled(len(row), piles, middle), row):
            low = middle
        else:
            high = middle - 1
    return low
