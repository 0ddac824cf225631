"""Tallies: points 59 to 62, with points 2, 3, 22 and 24."""

import random
import time
import unittest
from math import comb

from barebough.errors import NotKept, OutOfRange, WrongLength
from barebough.orders import is_fair
from barebough.tallies import count_orders, fair_orders, index_of, order_at, raid_counts
from tests.helpers import orders, plain_keeps, random_sizes, size_lists, spoil

SECONDS = 5


def keepers(sizes):
    """Return the full orders under which a size list is kept, in alphabetical order."""
    return [order for order in orders(sum(sizes)) if plain_keeps(sizes, order)]


class Counting(unittest.TestCase):
    """Points 59 and 60."""

    def test_empty_list(self):
        self.assertEqual([count_orders([]), raid_counts([])], [1, [1]])

    def test_small_lists_by_all_orders(self):
        for total in range(9):
            for sizes in size_lists(total):
                kept = keepers(sizes)
                self.assertEqual(count_orders(sizes), len(kept))
                self.assertEqual(raid_counts(sizes), [sum(order.count("R") == raids for order in kept)
                                                      for raids in range(total + 1)])

    def test_lists_of_two_entries(self):
        for first in range(1, 31):
            for second in range(1, first + 1):
                self.assertEqual(count_orders([first, second]), comb(first + second, first))

    def test_one_entry(self):
        for entry in range(1, 61):
            self.assertEqual([count_orders([entry]), raid_counts([entry])], [1, [1] + [0] * entry])

    def test_further_entries_of_one(self):
        for first in range(1, 6):
            for more in range(6):
                total = first + more
                counts = [comb(total - 1, raids) if raids <= more else 0 for raids in range(total + 1)]
                self.assertEqual(raid_counts([first] + [1] * more), counts)
        self.assertEqual(raid_counts([1] * 60), [comb(59, raids) for raids in range(60)] + [0])

    def test_laws_of_point_60(self):
        for total in range(1, 9):
            for sizes in size_lists(total):
                counts = raid_counts(sizes)
                self.assertEqual((len(counts), sum(counts)), (total + 1, count_orders(sizes)))
                for raids in range(total):
                    self.assertIs(counts[raids] == comb(total - 1, raids), len(sizes) > raids or raids == 0)
                    self.assertIs(counts[raids] > 0, total - sizes[0] >= raids)
                self.assertEqual(counts[total], 0)

    def test_sums_of_sixty_within_seconds(self):
        start = time.monotonic()
        rng = random.Random(59)
        for most in (2, 3, 5, 8, 15, 30, 60):
            sizes = random_sizes(rng, 60, most)
            counts = raid_counts(sizes)
            self.assertEqual((len(counts), sum(counts)), (61, count_orders(sizes)))
            for raids in range(60):
                self.assertIs(counts[raids] == comb(59, raids), len(sizes) > raids or raids == 0)
                self.assertIs(counts[raids] > 0, 60 - sizes[0] >= raids)
        self.assertEqual(count_orders([30, 30]), comb(60, 30))
        self.assertEqual(count_orders([1] * 60), 2 ** 59)
        self.assertLess(time.monotonic() - start, SECONDS)


class Numbering(unittest.TestCase):
    """Point 61."""

    def test_every_index_of_small_lists(self):
        for total in range(8):
            for sizes in size_lists(total):
                kept = keepers(sizes)
                self.assertEqual([order_at(sizes, index) for index in range(len(kept))], kept)
                self.assertEqual([index_of(sizes, order) for order in kept], list(range(len(kept))))

    def test_empty_list(self):
        self.assertEqual([order_at([], 0), index_of([], "")], ["", 0])

    def test_out_of_range(self):
        for sizes in ([], [1], [4], [2, 1], [2, 2, 1], [1] * 6, [30, 30]):
            count = count_orders(sizes)
            self.assertEqual(index_of(sizes, order_at(sizes, count - 1)), count - 1)
            for index in (-1, count, -count, count + 1, -1000000, 10 ** 30):
                with self.assertRaises(OutOfRange) as caught:
                    order_at(sizes, index)
                self.assertEqual(caught.exception.value, index)

    def test_wrong_length(self):
        for sizes, order in (([], "K"), ([], "R"), ([2, 1], ""), ([2, 1], "KK"), ([2, 1], "KRKR"), ([1], "RR"),
                             ([2, 1], "RR"), ([2, 1], "RRRR")):
            with self.assertRaises(WrongLength) as caught:
                index_of(sizes, order)
            self.assertEqual((caught.exception.given, caught.exception.needed), (len(order), sum(sizes)))

    def test_not_kept(self):
        for total in range(1, 7):
            for sizes in size_lists(total):
                for order in orders(total):
                    if not plain_keeps(sizes, order):
                        with self.assertRaises(NotKept):
                            index_of(sizes, order)

    def test_sums_of_sixty_within_seconds(self):
        start = time.monotonic()
        rng = random.Random(61)
        for most in (2, 4, 8, 20, 60):
            sizes = random_sizes(rng, 60, most)
            count = count_orders(sizes)
            self.assertEqual(order_at(sizes, 0), "K" * 60)
            last = ""
            for index in sorted({0, count - 1, count // 2, count // 3, rng.randrange(count)}):
                order = order_at(sizes, index)
                self.assertTrue(plain_keeps(sizes, order) and len(order) == 60)
                self.assertEqual(index_of(sizes, order), index)
                self.assertLess(last, order)
                last = order
        self.assertLess(time.monotonic() - start, SECONDS)

    def test_sums_of_fourteen_by_all_orders(self):
        rng = random.Random(610)
        for _ in range(20):
            sizes = random_sizes(rng, 14, rng.choice([3, 6, 14]))
            kept = keepers(sizes)
            index = rng.randrange(len(kept))
            self.assertEqual(order_at(sizes, index), kept[index])
            self.assertEqual(index_of(sizes, kept[index]), index)


class Fair(unittest.TestCase):
    """Point 62."""

    def test_all_orders_of_up_to_twelve_turns(self):
        for total in range(13):
            counts = [0] * (total + 1)
            for order in orders(total):
                if is_fair(order):
                    counts[order.count("R")] += 1
            self.assertEqual([fair_orders(total, raids) for raids in range(total + 1)], counts)

    def test_both_ends(self):
        for total in (0, 1, 2, 7, 198, 199):
            self.assertEqual([fair_orders(total, 0), fair_orders(total, total)], [1, 1])
            for raids in (-1, total + 1, -5, 1000):
                with self.assertRaises(OutOfRange) as caught:
                    fair_orders(total, raids)
                self.assertEqual(caught.exception.value, raids)

    def test_total_of_199(self):
        self.assertEqual(fair_orders(199, 1), 198)
        self.assertEqual(fair_orders(199, 99), comb(199, 99) - comb(199, 98))
        self.assertEqual(fair_orders(199, 100), comb(198, 99) // 100)
        self.assertEqual(fair_orders(199, 198), 1)
        self.assertEqual(fair_orders(199, 197), 2)
        self.assertEqual(fair_orders(198, 99), comb(198, 99) // 100)


class Separate(unittest.TestCase):
    """Point 2."""

    def test_arguments_and_results(self):
        sizes = [3, 2, 1]
        before = raid_counts(sizes)
        spoil(raid_counts(sizes))
        self.assertEqual(raid_counts(sizes), before)
        self.assertEqual([count_orders(sizes), index_of(sizes, order_at(sizes, 3))], [sum(before), 3])
        self.assertEqual(sizes, [3, 2, 1])
        spoil(raid_counts([]))
        self.assertEqual(raid_counts([]), [1])


if __name__ == "__main__":
    unittest.main()
