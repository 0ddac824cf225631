"""Unlike orders: points 33 and 34, with points 2 and 3."""

import time
import unittest
from itertools import product

from barebough.classes import order_for, unlike_orders
from barebough.rows import alike, pull, tight
from tests.helpers import kept_lists, meets, orders, size_lists, top_sum

SECONDS = 5


def classes_by_play(total):
    """Return what unlike_orders has to return, found from the lists that each order keeps."""
    groups = {}
    for order in orders(total):
        kept = kept_lists(order)
        if kept:
            row = tuple(max(top_sum(sizes, k) for sizes in kept) for k in range(1, total + 1))
            groups.setdefault((row, repr(kept)), []).append(order)
    return sorted((row, min(group), len(group)) for (row, _), group in groups.items())


class Unlike(unittest.TestCase):
    """Point 33."""

    def test_small_totals(self):
        self.assertEqual(unlike_orders(0), [((), "", 1)])
        self.assertEqual(unlike_orders(1), [((1,), "K", 1)])
        self.assertEqual(unlike_orders(2), [((1, 2), "RK", 1), ((2, 2), "KK", 1)])
        self.assertEqual(unlike_orders(3), [((1, 2, 3), "RRK", 1), ((2, 3, 3), "KRK", 2), ((3, 3, 3), "KKK", 1)])

    def test_classes_by_plain_play(self):
        for total in range(9):
            self.assertEqual(unlike_orders(total), classes_by_play(total))

    def test_counts_add_up(self):
        for total in range(11):
            counts = [count for _, _, count in unlike_orders(total)]
            self.assertEqual(sum(counts), 2 ** (total - 1) if total else 1)

    def test_kinds_of_values_and_order(self):
        found = unlike_orders(7)
        rows = [row for row, _, _ in found]
        self.assertEqual(rows, sorted(set(rows)))
        for entry in found:
            row, order, count = entry
            self.assertEqual([type(part) for part in (entry, row, order, count)], [tuple, tuple, str, int])
            self.assertEqual(list(row), tight(pull(order)))

    def test_each_order_has_one_class(self):
        found = unlike_orders(6)
        for order in orders(6):
            homes = [first for _, first, _ in found if alike(first, order)]
            self.assertEqual(len(homes), 1 if order.endswith("K") else 0)
            self.assertTrue(all(first <= order for first in homes))

    def test_ten_turns_within_seconds(self):
        start = time.monotonic()
        found = unlike_orders(10)
        self.assertLess(time.monotonic() - start, SECONDS)
        self.assertEqual(found, classes_by_play(10))

    def test_the_list_is_new(self):
        before = unlike_orders(4)
        spoilt = unlike_orders(4)
        spoilt.clear()
        self.assertEqual(unlike_orders(4), before)


class Naming(unittest.TestCase):
    """Point 34."""

    def test_examples(self):
        self.assertEqual([order_for([1, 2]), order_for([2, 4, 5, 6, 6, 6]), order_for([0, 2, 3])], ["RK", None, "KKR"])
        self.assertEqual([order_for([]), order_for([1]), order_for([0])], ["", "K", "R"])

    def test_all_small_rows_by_plain_play(self):
        for total in range(5):
            kept = [(kept_lists(order), order) for order in orders(total)]
            for row in product(range(-1, total + 2), repeat=total):
                lists = [sizes for sizes in size_lists(total) if meets(sizes, row)]
                found = [order for sizes, order in kept if sizes == lists]
                self.assertEqual(order_for(list(row)), min(found, default=None))

    def test_rows_that_are_not_tight(self):
        self.assertEqual(order_for([1, 99, 99]), "RRK")
        self.assertEqual(order_for([9, 3, 9]), "KKK")
        self.assertEqual(order_for([2, 99, 99, 99]), order_for([2, 4, 4, 4]))

    def test_rows_that_no_list_fits(self):
        self.assertEqual(order_for([5, 5, 5, 5, 4]), "KKKKR")
        self.assertEqual(order_for([-1000000]), "R")
        self.assertEqual(order_for([0] * 10), "KKKKKKKKKR")

    def test_rows_that_no_order_has(self):
        self.assertIsNone(order_for([2, 4, 5, 6, 6, 6]))
        self.assertIsNone(order_for([2, 4, 5, 99, 99, 99]))

    def test_rows_of_all_classes(self):
        for total in range(8):
            for row, order, _ in unlike_orders(total):
                self.assertEqual(order_for(list(row)), order)

    def test_ten_bounds_within_seconds(self):
        start = time.monotonic()
        self.assertEqual(order_for([10] * 10), "K" * 10)
        self.assertEqual(order_for(list(range(1, 11))), "R" * 9 + "K")
        self.assertLess(time.monotonic() - start, SECONDS)

    def test_the_row_stays_as_it_is(self):
        row = [9, 3, 9]
        order_for(row)
        self.assertEqual(row, [9, 3, 9])


if __name__ == "__main__":
    unittest.main()
