"""Size lists: points 12 to 19, with point 2."""

import unittest

from barebough import sizes as module
from barebough.errors import OutOfRange, UnevenSums
from barebough.sizes import (
    conjugate, glue, grown_riskiest, grown_safest, is_as_safe, join, levelled, meet, normal, take,
    take_largest, take_smallest, top_sums)
from tests.helpers import safe, size_lists, spoil, top_sum

SOME = [sizes for total in range(8) for sizes in size_lists(total)]


class Entries(unittest.TestCase):
    """Points 12 and 13."""

    def test_normal_drops_zeros_and_sorts(self):
        self.assertEqual(normal([0, 2, 5, 0, 2, 11]), [11, 5, 2, 2])
        self.assertEqual((normal([]), normal([0, 0]), normal([3])), ([], [], [3]))

    def test_top_sums(self):
        self.assertEqual(top_sums([3, 1, 1]), [3, 4, 5, 5, 5])
        self.assertEqual((top_sums([]), top_sums([1]), top_sums([4])), ([], [1], [4, 4, 4, 4]))
        for sizes in SOME:
            self.assertEqual(top_sums(sizes), [top_sum(sizes, k) for k in range(1, sum(sizes) + 1)])

    def test_take_at_every_index(self):
        sizes = [4, 4, 2, 1, 1]
        self.assertEqual([take(sizes, place) for place in range(5)],
                         [[4, 3, 2, 1, 1], [4, 3, 2, 1, 1], [4, 4, 1, 1, 1], [4, 4, 2, 1], [4, 4, 2, 1]])
        self.assertEqual((take([1], 0), take([2], 0)), ([], [1]))

    def test_take_at_every_index_of_many_lists(self):
        for sizes in SOME:
            for place in range(len(sizes)):
                rest = sizes[:place] + sizes[place + 1:] + [sizes[place] - 1]
                self.assertEqual(take(sizes, place), sorted([entry for entry in rest if entry], reverse=True))

    def test_take_largest_and_smallest(self):
        self.assertEqual((take_largest([4, 4, 2]), take_smallest([4, 4, 2])), ([4, 3, 2], [4, 4, 1]))
        self.assertEqual((take_largest([5, 1]), take_smallest([5, 1])), ([4, 1], [5]))
        self.assertEqual((take_largest([1]), take_smallest([1])), ([], []))
        self.assertEqual((take_largest([3, 3]), take_smallest([3, 3])), ([3, 2], [3, 2]))


class Safety(unittest.TestCase):
    """Points 14 to 17."""

    def uneven(self, function, first, second):
        with self.assertRaises(UnevenSums) as caught:
            function(first, second)
        return caught.exception.first, caught.exception.second

    def test_uneven_sums(self):
        for function in (is_as_safe, meet, join):
            self.assertEqual(self.uneven(function, [3, 1], [2, 2, 1]), (4, 5))
            self.assertEqual(self.uneven(function, [5], []), (5, 0))
            self.assertEqual(self.uneven(function, [], [1]), (0, 1))

    def test_is_as_safe(self):
        self.assertIs(is_as_safe([2, 1, 1], [3, 1]), True)
        self.assertIs(is_as_safe([3, 1], [2, 1, 1]), False)
        self.assertIs(is_as_safe([2, 2], [2, 2]), True)
        self.assertIs(is_as_safe([], []), True)
        # Neither of these two is as safe as the other.
        self.assertIs(is_as_safe([3, 1, 1, 1], [2, 2, 2]), False)
        self.assertIs(is_as_safe([2, 2, 2], [3, 1, 1, 1]), False)

    def test_is_as_safe_for_all_lists_of_a_small_sum(self):
        for total in range(8):
            for first in size_lists(total):
                for second in size_lists(total):
                    self.assertIs(is_as_safe(first, second), safe(first, second))

    def test_conjugate(self):
        self.assertEqual((conjugate([]), conjugate([3, 1]), conjugate([5])), ([], [2, 1, 1], [1, 1, 1, 1, 1]))
        for sizes in SOME:
            turned = conjugate(sizes)
            self.assertEqual(turned, [sum(entry > j for entry in sizes) for j in range(max(sizes, default=0))])
            self.assertEqual(conjugate(turned), sizes)

    def test_conjugates_turn_safety_round(self):
        for first in size_lists(7):
            for second in size_lists(7):
                self.assertEqual(is_as_safe(first, second), is_as_safe(conjugate(second), conjugate(first)))

    def test_example_of_meet_and_join(self):
        self.assertEqual([meet([3, 1, 1, 1], [2, 2, 2]), join([3, 1, 1, 1], [2, 2, 2])], [[2, 2, 1, 1], [3, 2, 1]])
        self.assertEqual([meet([], []), join([], [])], [[], []])

    def test_join_whose_top_sums_are_not_the_greater_ones(self):
        self.assertEqual(join([4, 1, 1, 1], [3, 3, 1]), [4, 2, 1])
        self.assertEqual(join([4, 1, 1, 1, 1], [2, 2, 2, 2]), [4, 2, 1, 1])
        self.assertEqual(join([5, 1, 1, 1, 1], [3, 3, 3]), [5, 2, 2])

    def test_meet_and_join_against_all_lists_of_a_small_sum(self):
        for total in range(9):
            lists = size_lists(total)
            for first in lists:
                for second in lists:
                    lower = [sizes for sizes in lists if safe(sizes, first) and safe(sizes, second)]
                    riskiest = [sizes for sizes in lower if all(safe(other, sizes) for other in lower)]
                    upper = [sizes for sizes in lists if safe(first, sizes) and safe(second, sizes)]
                    safest = [sizes for sizes in upper if all(safe(sizes, other) for other in upper)]
                    self.assertEqual(([meet(first, second)], [join(first, second)]), (riskiest, safest))

    def test_glue(self):
        self.assertEqual(glue([4, 1], [5, 2, 1]), [5, 4, 2, 1, 1])
        self.assertEqual([glue([], [2]), glue([2], []), glue([], [])], [[2], [2], []])

    def test_glue_keeps_safety(self):
        for first in size_lists(5):
            for second in size_lists(5):
                if safe(first, second):
                    for third in SOME[:20]:
                        self.assertTrue(is_as_safe(glue(first, third), glue(second, third)))


class Making(unittest.TestCase):
    """Points 18 and 19."""

    def test_examples_of_levelled(self):
        self.assertEqual(levelled(10, 3, 8), [3, 3, 2, 1, 1])
        self.assertEqual(levelled(10, 3, 10), [4, 3, 3])
        self.assertEqual(levelled(10, 1, 4), [4, 1, 1, 1, 1, 1, 1])

    def test_levelled_at_both_ends_of_the_range(self):
        self.assertEqual([levelled(5, 3, 3), levelled(5, 3, 5)], [[1, 1, 1, 1, 1], [2, 2, 1]])
        for total, piles, top in ((5, 3, 2), (5, 3, 6), (5, 1, 0), (5, 5, 4), (5, 3, -1), (0, 1, 1)):
            with self.assertRaises(OutOfRange) as caught:
                levelled(total, piles, top)
            self.assertEqual(caught.exception.value, top)

    def test_levelled_with_more_piles_than_cells(self):
        self.assertEqual([levelled(3, 5, 3), levelled(0, 1, 0), levelled(0, 200, 0)], [[1, 1, 1], [], []])
        for top in (2, 4, 5):
            with self.assertRaises(OutOfRange):
                levelled(3, 5, top)
        with self.assertRaises(OutOfRange):
            levelled(0, 4, -1)

    def test_levelled_is_the_safest_list(self):
        for total in range(9):
            for piles in range(1, total + 3):
                for top in range(min(piles, total), total + 1):
                    lists = [sizes for sizes in size_lists(total) if top_sum(sizes, piles) == top]
                    best = [sizes for sizes in lists if all(safe(sizes, other) for other in lists)]
                    self.assertEqual([levelled(total, piles, top)], best)

    def test_grown(self):
        self.assertEqual([grown_safest([3, 1], 2), grown_riskiest([3, 1], 2)], [[3, 1, 1, 1], [5, 1]])
        self.assertEqual([grown_safest([], 3), grown_riskiest([], 3)], [[1, 1, 1], [3]])
        self.assertEqual([grown_safest([], 0), grown_riskiest([], 0)], [[], []])
        self.assertEqual([grown_safest([2, 2], 0), grown_riskiest([2, 2], 0)], [[2, 2], [2, 2]])

    def test_grown_bounds_all_ways_to_add_cells(self):
        for sizes in SOME[:20]:
            reached = [sizes]
            for extra in range(4):
                for one in reached:
                    self.assertTrue(safe(grown_safest(sizes, extra), one))
                    self.assertTrue(safe(one, grown_riskiest(sizes, extra)))
                self.assertIn(grown_safest(sizes, extra), reached)
                self.assertIn(grown_riskiest(sizes, extra), reached)
                reached = [sorted(one[:place] + [one[place] + 1] + one[place + 1:], reverse=True)
                           for one in reached for place in range(len(one))] + [one + [1] for one in reached]

    def test_large_lists(self):
        ones, one = [1] * 199, [199]
        self.assertEqual((conjugate(ones), conjugate(one)), ([199], ones))
        self.assertEqual((meet(ones, one), join(ones, one)), (ones, one))
        self.assertEqual(levelled(199, 100, 199), [2] * 99 + [1])


class Keeping(unittest.TestCase):
    """Point 2: arguments stay as they are, and every list that is returned is new."""

    def test_arguments_and_results(self):
        calls = [("normal", [2, 1]), ("top_sums", [2, 1]), ("take", [2, 1], 1), ("take_largest", [2, 1]),
                 ("take_smallest", [2, 1]), ("is_as_safe", [2, 1], [3]), ("conjugate", [2, 1]), ("conjugate", [1]),
                 ("meet", [2, 1], [2, 1]), ("join", [2, 1], [2, 1]), ("glue", [2, 1], []), ("glue", [], [2, 1]),
                 ("levelled", 3, 2, 3), ("grown_safest", [2, 1], 0), ("grown_riskiest", [2, 1], 0),
                 ("grown_safest", [], 0), ("grown_riskiest", [], 0), ("normal", [])]
        for name, *arguments in calls:
            function = getattr(module, name)
            before = repr(arguments)
            result = function(*arguments)
            told = repr(result)
            spoil(result)
            self.assertEqual(repr(arguments), before, name)
            self.assertEqual(repr(function(*arguments)), told, name)


if __name__ == "__main__":
    unittest.main()
