"""Safety: orders that tell size lists apart, and the safest cells of a tree."""

from barebough.errors import NoQuestion
from barebough.orders import telling_order
from barebough.rows import first_break
from barebough.sizes import is_safer_by_tops, need_even_sums, take, take_largest, take_smallest, top_sums


def order_against(first, second):
    """Return an order that keeps the second size list and not the first, or None."""
    need_even_sums(first, second)
    count = first_break(first, top_sums(second))
    if count is None:
        return None
    return telling_order(sum(first), count, sum(first[:count]))


def refutation(sizes, place, letter):
    """Return an order that shows that a pluck is not the best one of its side, or None."""
    after = take(sizes, place)
    if letter == "K":
        return order_against(after, take_largest(sizes))
    if len(sizes) == 1:
        return "K" * (sum(sizes) - 1)
    return order_against(take_smallest(sizes), after)


class Prober:
    """Finds a hidden size list with a known sum by asking which orders keep it."""

    def __init__(self, total):
        self._total = total
        self._known = []
        self._asked = 0
        # The least and the greatest top sum up to the entry that is to be found.
        self._low = 0
        self._high = 0
        self._begin_entry()

    def question(self):
        """Return the order that is asked about, or None if the list is known."""
        if self._is_known():
            return None
        return telling_order(self._total, len(self._known) + 1, self._limit())

    def answer(self, kept):
        """Take whether the hidden list is kept under the order of the question."""
        if self._is_known():
            raise NoQuestion()
        self._asked += 1
        if kept:
            self._high = self._limit() - 1
        else:
            self._low = self._limit()
        if self._low == self._high:
            self._known.append(self._low - sum(self._known))
            self._begin_entry()

    def found(self):
        """Return the hidden list if it is known, otherwise None."""
        return list(self._known) if self._is_known() else None

    def asked(self):
        """Return the number of answers so far."""
        return self._asked

    def _is_known(self):
        return sum(self._known) == self._total

    def _limit(self):
        return (self._low + self._high + 1) // 2

    def _begin_entry(self):
        """Go on to the next entry that needs a question, if there is one."""
        before = sum(self._known)
        most = min(self._known[-1:] + [self._total - before])
        while most == 1:
            self._known.append(1)
            before += 1
            most = min(1, self._total - before)
        self._low = before + 1
        self._high = before + most


def safest(tree):
    """Return the cells whose size lists are as safe as those of every cell."""
    tops = [top_sums(sizes) for sizes in tree.all_sizes()]
    least = [min(sums) for sums in zip(*tops)]
    return [cell for cell, sums in enumerate(tops) if sums == least]


def unbeaten(tree):
    """Return the cells for which no cell has a safer size list."""
    tops = [top_sums(sizes) for sizes in tree.all_sizes()]
    return [cell for cell, sums in enumerate(tops) if not any(is_safer_by_tops(other, sums) for other in tops)]
