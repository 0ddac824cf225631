"""Listings: all size lists that an order keeps."""

from barebough.rows import fits, pull
from barebough.sizes import is_safer_by_tops, top_sums


class KeptLists:
    """The size lists that are kept under a full order. It never changes."""

    def __init__(self, order):
        row = pull(order)
        total = len(order)
        self._entries = [tuple(sizes) for sizes in size_lists(total, total) if fits(sizes, row)]

    def __iter__(self):
        return iter(self._entries)

    def __contains__(self, sizes):
        return tuple(sizes) in self._entries

    def total(self):
        """Return the number of the kept size lists."""
        return len(self._entries)

    def heaviest(self):
        """Return the kept size lists that are not safer than any other one."""
        tops = [top_sums(entries) for entries in self._entries]
        pairs = zip(self._entries, tops)
        return [list(entries) for entries, sums in pairs if not any(is_safer_by_tops(sums, other) for other in tops)]


def size_lists(total, most):
    """Return all size lists with a sum and entries up to some number, in descending order."""
    if total == 0:
        return [[]]
    tops = range(min(total, most), 0, -1)
    return [[first] + rest for first in tops for rest in size_lists(total - first, first)]
