"""Certificates: what shows that a size list is kept or lost."""

from barebough.errors import WrongLength
from barebough.rows import due_goal, first_break, fits, tail_rows, turn_step


def certificate(sizes, order, *, goal=None):
    """Return ("kept", rows) or ("lost", thread) with one line for each tail of the order."""
    rows = tail_rows(order, goal=due_goal(sizes, len(order), goal))
    count = first_break(sizes, rows[0])
    if count is None:
        return "kept", rows
    return "lost", _thread(order, rows, count)


def bad_line(sizes, order, certificate, *, goal=None):
    """Return the index of the last wrong line, -1 if only the claim is not shown, or None."""
    bounds = due_goal(sizes, len(order), goal)
    kind, lines = certificate
    if len(lines) != len(order) + 1:
        raise WrongLength(len(lines), len(order) + 1)
    if kind == "kept":
        wrong = _wrong_row(order, lines, bounds)
    else:
        wrong = _wrong_pair(order, lines, bounds)
    if wrong is None and not _shows_claim(kind, lines[0], sizes):
        return -1
    return wrong


def _thread(order, rows, count):
    """Return the pairs (k, bound) that lead to the bound for H(count) of the first row."""
    thread = [(count, _lesser_bound(rows[0], count))]
    for letter, row in zip(order, rows[1:]):
        count, bound = thread[-1]
        # Where the row below has no such bound for k, the one for k-1 was the lesser.
        if letter == "K" and count > 1 and _lesser_bound(row, count) + 1 > bound:
            count -= 1
        thread.append((count, _lesser_bound(row, count)))
    return thread


def _lesser_bound(row, count):
    """Return the lesser of a bound and the sum; a bound that the row lacks is free."""
    return min(row[count - 1:count] + [len(row)])


def _wrong_row(order, rows, goal):
    """Return the greatest index of a wrong line of a kept certificate, or None."""
    due = goal
    for index in reversed(range(len(rows))):
        if not _is_right_row(rows[index], due):
            return index
        if index > 0:
            due = turn_step(order[index - 1], rows[index])
    return None


def _is_right_row(row, due):
    total = len(due)
    if len(row) != total:
        return False
    return all(bound <= most or most >= total for bound, most in zip(row, due))


def _wrong_pair(order, thread, goal):
    """Return the greatest index of a wrong line of a lost certificate, or None."""
    due = _pairs_of_goal(goal)
    total = len(goal)
    for index in reversed(range(len(thread))):
        if not _is_right_pair(thread[index], due):
            return index
        if index > 0:
            due = _pairs_above(order[index - 1], thread[index], total)
            total += 1
    return None


def _is_right_pair(line, due):
    count, bound = line
    return any(count == other and bound >= least for other, least in due)


def _pairs_of_goal(goal):
    """Return the pairs (k, bound) that are due in the last line."""
    total = len(goal)
    further = [(index + 1, bound) for index, bound in enumerate(goal) if index > 0 and bound < total]
    return [(1, _lesser_bound(goal, 1))] + further


def _pairs_above(letter, line, total):
    """Return the pairs that are due above a line whose sum is total."""
    count, bound = line
    if letter == "K":
        return [(count, bound + 1), (count + 1, bound + 1 + bound // count)]
    if count == 1:
        return [(1, min(bound, total))]
    return [(count, bound)] if bound < total else []


def _shows_claim(kind, line, sizes):
    """Tell whether the first line, if it is right, shows the fate of the size list."""
    if kind == "kept":
        return fits(sizes, line)
    count, bound = line
    return sum(sizes[:count]) > bound
