"""Orders: strings of the letters K (Keeper plucks) and R (Raider plucks)."""

from barebough.errors import BadOrder, OutOfRange, WrongLength


def check_order(text):
    """Return the number of turns, or raise BadOrder if the text is not an order."""
    for index, letter in enumerate(text):
        if letter not in ("K", "R"):
            raise BadOrder(index)
    return len(text)


def telling_order(total, count, limit):
    """Return the order that keeps exactly the size lists with H(count) less than limit."""
    if not count < limit <= total:
        raise OutOfRange(limit)
    return "R" * (total - limit) + "K" * (limit - count - 1) + "R" * count + "K"


def is_fair(order):
    """Tell whether each tail that begins with a K has more letters K than R."""
    lead = 0
    for letter in order[::-1]:
        if letter == "R":
            lead -= 1
        else:
            lead += 1
            if lead <= 0:
                return False
    return True


def tails_kinder(first, second):
    """Tell whether no tail of the first order has fewer letters K than that of the second."""
    need_same_turns(first, second)
    lead = 0
    for one, other in zip(first[::-1], second[::-1]):
        if one == "K":
            lead += 1
        if other == "K":
            lead -= 1
        if lead < 0:
            return False
    return True


def hardest(pattern, *, raids=None):
    """Return the filling under which a size list is kept if all fillings keep it."""
    gaps = _count_gaps(pattern, raids)
    if raids is None:
        return _filled(pattern, "R" * gaps)
    return _filled(pattern, "K" * (gaps - raids) + "R" * raids)


def kindest(pattern, *, raids=None):
    """Return the filling under which a size list is kept if some filling keeps it."""
    gaps = _count_gaps(pattern, raids)
    if raids is None:
        return _filled(pattern, "K" * gaps)
    return _filled(pattern, "R" * raids + "K" * (gaps - raids))


def first_keeps_changed(order, many, letter):
    """Return the order with its first so many letters K replaced by a letter or by nothing."""
    return order.replace("K", letter, many)


def last_raids_changed(order, many, letter):
    """Return the order with its last so many letters R replaced by a letter or by nothing."""
    return order[::-1].replace("R", letter, many)[::-1]


def need_same_turns(first, second):
    """Raise WrongLength if the second order has not as many turns as the first."""
    if len(first) != len(second):
        raise WrongLength(len(second), len(first))


def _count_gaps(pattern, raids):
    """Return the number of the ? in a pattern, which allows so many raids."""
    gaps = pattern.count("?")
    if raids is not None and not 0 <= raids <= gaps:
        raise OutOfRange(raids)
    return gaps


def _filled(pattern, letters):
    """Return the pattern with its ? replaced by the letters, from left to right."""
    parts = pattern.split("?")
    return parts[0] + "".join([letter + part for letter, part in zip(letters, parts[1:])])
