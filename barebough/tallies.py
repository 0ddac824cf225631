"""Tallies: how many orders keep a size list, and which one has which number."""

from math import comb

from barebough.errors import NotKept, OutOfRange, WrongLength
from barebough.fates import plain_play, plain_turn
from barebough.sizes import take_largest, take_smallest


def count_orders(sizes):
    """Return the number of full orders under which the size list is kept."""
    return sum(raid_counts(sizes))


def raid_counts(sizes):
    """Return the numbers of full orders with 0, 1, .. letters R that keep the size list."""
    return _tally(sizes)[tuple(sizes)]


def order_at(sizes, index):
    """Return the full order with this number of those that keep the size list."""
    tally = _tally(sizes)
    if not 0 <= index < sum(tally[tuple(sizes)]):
        raise OutOfRange(index)
    letters = []
    left = index
    state = sizes
    while state:
        after = take_largest(state)
        ahead = sum(tally[tuple(after)])
        if left < ahead:
            letters.append("K")
            state = after
        else:
            letters.append("R")
            state = take_smallest(state)
            left -= ahead
    return "".join(letters)


def index_of(sizes, order):
    """Return the number of a full order among those that keep the size list."""
    if len(order) != sum(sizes):
        raise WrongLength(len(order), sum(sizes))
    states = plain_play(sizes, order)
    if len(states) <= len(order):
        raise NotKept()
    tally = _tally(sizes)
    # The orders ahead of this one have its letters up to some R, and a K in its place.
    ahead = [take_largest(state) for state, letter in zip(states, order) if letter == "R"]
    return sum([sum(tally[tuple(state)]) for state in ahead])


def fair_orders(total, raids):
    """Return the number of fair orders with so many turns and letters R."""
    if not 0 <= raids <= total:
        raise OutOfRange(raids)
    if raids == 0:
        return 1
    if 2 * raids <= total:
        return comb(total, raids) - comb(total, raids - 1)
    keeps = total - raids
    return comb(2 * keeps, keeps) // (keeps + 1)


def _tally(sizes):
    """Return the raid counts of all size lists that a plain play from this one can reach."""
    tally = {}
    for stage in _stages(sizes)[::-1]:
        for state in stage:
            tally[state] = _raid_counts_at(list(state), tally)
    return tally


def _stages(sizes):
    """Return for each number of turns the size lists that plain plays can reach by then."""
    stages = [[tuple(sizes)]]
    for _ in range(sum(sizes)):
        states = [plain_turn(list(state), letter) for state in stages[-1] for letter in ("K", "R")]
        stages.append(sorted(set([tuple(state) for state in states if state is not None])))
    return stages


def _raid_counts_at(sizes, tally):
    """Return the raid counts of a size list if those of the lists one turn later are known."""
    if not sizes:
        return [1]
    keeper = tally[tuple(take_largest(sizes))]
    raider = tally[tuple(take_smallest(sizes))] if len(sizes) > 1 else [0] * len(keeper)
    return [one + other for one, other in zip(keeper + [0], [0] + raider)]
