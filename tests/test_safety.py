"""Safety: points 55 to 58, with points 2, 3, 14, 22 and 23."""

import random
import time
import unittest
from itertools import product

from barebough.errors import NoQuestion, UnevenSums
from barebough.safety import Prober, order_against, refutation, safest, unbeaten
from barebough.trees import Tree
from tests.helpers import orders, plain_keeps, random_links, random_sizes, safe, size_lists, spoil, top_sum

SECONDS = 5


def telling(total, count, limit):
    """Return the telling order of point 23."""
    return "R" * (total - limit) + "K" * (limit - count - 1) + "R" * count + "K"


class Against(unittest.TestCase):
    """Point 55."""

    def test_lists_that_are_equal_or_empty(self):
        self.assertIsNone(order_against([], []))
        for sizes in size_lists(6):
            self.assertIsNone(order_against(sizes, list(sizes)))

    def test_lists_that_can_be_compared(self):
        self.assertEqual(order_against([2, 2], [2, 1, 1]), "KRRK")
        self.assertIsNone(order_against([2, 1, 1], [2, 2]))
        self.assertEqual(order_against([4], [3, 1]), "KKRK")
        self.assertEqual(order_against([2], [1, 1]), "RK")

    def test_lists_of_which_neither_is_as_safe(self):
        self.assertEqual(order_against([3, 1, 1, 1], [2, 2, 2]), "RRRKRK")
        self.assertEqual(order_against([2, 2, 2], [3, 1, 1, 1]), "KKRRRK")

    def test_all_small_pairs(self):
        for total in range(8):
            for first in size_lists(total):
                for second in size_lists(total):
                    order = order_against(first, second)
                    if safe(first, second):
                        self.assertIsNone(order)
                    else:
                        k = min(k for k in range(1, total + 1) if top_sum(first, k) > top_sum(second, k))
                        self.assertEqual(order, telling(total, k, top_sum(first, k)))
                        self.assertTrue(plain_keeps(second, order))
                        self.assertFalse(plain_keeps(first, order))

    def test_none_means_that_no_order_tells(self):
        for first in size_lists(6):
            for second in size_lists(6):
                tells = any(plain_keeps(second, order) and not plain_keeps(first, order) for order in orders(6))
                self.assertIs(order_against(first, second) is None, not tells)

    def test_uneven_sums(self):
        for first, second in (([3], [2]), ([], [1]), ([2, 2], []), ([1, 1], [2, 1])):
            with self.assertRaises(UnevenSums) as caught:
                order_against(first, second)
            self.assertEqual((caught.exception.first, caught.exception.second), (sum(first), sum(second)))

    def test_sums_of_199(self):
        start = time.monotonic()
        rng = random.Random(55)
        for _ in range(100):
            first, second = random_sizes(rng, 199, 30), random_sizes(rng, 199, 40)
            order = order_against(first, second)
            self.assertIs(order is None, safe(first, second))
            if order is not None:
                self.assertEqual(len(order), 199)
                self.assertEqual((plain_keeps(second, order), plain_keeps(first, order)), (True, False))
        self.assertEqual(order_against([199], [198, 1]), "K" * 197 + "RK")
        self.assertLess(time.monotonic() - start, SECONDS)


class Refuting(unittest.TestCase):
    """Point 56."""

    def lowered(self, sizes, place):
        entries = list(sizes)
        entries[place] -= 1
        return sorted((entry for entry in entries if entry), reverse=True)

    def test_best_plucks(self):
        self.assertIsNone(refutation([3, 2, 1], 0, "K"))
        self.assertIsNone(refutation([3, 2, 1], 2, "R"))
        self.assertIsNone(refutation([1], 0, "K"))
        self.assertIsNone(refutation([4], 0, "K"))

    def test_equal_entries_give_the_same_list(self):
        for place in range(3):
            self.assertIsNone(refutation([2, 2, 2], place, "K"))
            self.assertIsNone(refutation([2, 2, 2], place, "R"))
        best = [place for place in range(4) if refutation([3, 3, 1, 1], place, "K") is None]
        self.assertEqual(best, [0, 1])
        best = [place for place in range(4) if refutation([3, 3, 1, 1], place, "R") is None]
        self.assertEqual(best, [2, 3])

    def test_keeper(self):
        # [2, 1] after the pluck, and [1, 1, 1] after the best one.
        self.assertEqual(refutation([2, 1, 1], 1, "K"), order_against([2, 1], [1, 1, 1]))
        self.assertEqual(refutation([2, 1, 1], 1, "K"), "RRK")

    def test_raider(self):
        # [3] after the best pluck, and [2, 1] after this one.
        self.assertEqual(refutation([3, 1], 0, "R"), order_against([3], [2, 1]))
        self.assertEqual(refutation([3, 1], 0, "R"), "KRK")

    def test_raider_and_one_entry(self):
        # Raider could have plucked the named cell.
        for entry in range(1, 8):
            self.assertEqual(refutation([entry], 0, "R"), "K" * (entry - 1))

    def test_every_place_of_small_lists(self):
        for total in range(1, 8):
            for sizes in size_lists(total):
                for place in range(len(sizes)):
                    self.check_keeper(sizes, place)
                    self.check_raider(sizes, place)

    def check_keeper(self, sizes, place):
        after, best = self.lowered(sizes, place), self.lowered(sizes, 0)
        order = refutation(sizes, place, "K")
        if after == best:
            self.assertIsNone(order)
        else:
            self.assertEqual(order, order_against(after, best))
            self.assertEqual((plain_keeps(after, order), plain_keeps(best, order)), (False, True))

    def check_raider(self, sizes, place):
        after, best = self.lowered(sizes, place), self.lowered(sizes, len(sizes) - 1)
        order = refutation(sizes, place, "R")
        if len(sizes) == 1:
            self.assertEqual(order, "K" * (sizes[0] - 1))
            self.assertTrue(plain_keeps(after, order))
        elif after == best:
            self.assertIsNone(order)
        else:
            self.assertEqual(order, order_against(best, after))
            self.assertEqual((plain_keeps(after, order), plain_keeps(best, order)), (True, False))


class Probing(unittest.TestCase):
    """Point 57."""

    def asked_about(self, total, entries, low, high):
        """Go on with the known entries as far as no question is needed; return them, low and high."""
        while sum(entries) < total and (low is None or low == high):
            if low is not None:
                entries = entries + [low - sum(entries)]
            before = sum(entries)
            if before == total:
                break
            most = min([total - before] + entries[-1:])
            low, high = before + 1, before + most
        return entries, low, high

    def follow(self, total, answers):
        """Answer a prober, and compare each question with the words of the point; return the list."""
        prober = Prober(total)
        entries, low, high = self.asked_about(total, [], None, None)
        count = 0
        while sum(entries) < total:
            limit = (low + high + 1) // 2
            question = telling(total, len(entries) + 1, limit)
            self.assertEqual([prober.question(), prober.question(), prober.found(), prober.asked()],
                             [question, question, None, count])
            kept = answers(question)
            self.assertIsNone(prober.answer(kept))
            count += 1
            low, high = (low, limit - 1) if kept else (limit, high)
            entries, low, high = self.asked_about(total, entries, low, high)
        self.assertEqual([prober.question(), prober.found(), prober.asked()], [None, entries, count])
        self.refused(prober)
        return entries

    def refused(self, prober):
        before = (prober.question(), prober.found(), prober.asked())
        for kept in (True, False):
            with self.assertRaises(NoQuestion):
                prober.answer(kept)
        self.assertEqual((prober.question(), prober.found(), prober.asked()), before)

    def test_sums_that_need_no_question(self):
        for total, sizes in ((0, []), (1, [1])):
            prober = Prober(total)
            self.assertEqual([prober.question(), prober.found(), prober.asked()], [None, sizes, 0])
            self.refused(prober)

    def test_first_questions(self):
        self.assertEqual([Prober(total).question() for total in (2, 3, 4, 5)],
                         [telling(2, 1, 2), telling(3, 1, 2), telling(4, 1, 3), telling(5, 1, 3)])
        prober = Prober(2)
        self.assertEqual([prober.question(), prober.answer(True), prober.found()], ["RK", None, [1, 1]])
        prober = Prober(2)
        self.assertEqual([prober.answer(False), prober.found(), prober.asked()], [None, [2], 1])

    def test_led_by_every_small_list(self):
        for total in range(11):
            for sizes in size_lists(total):
                self.assertEqual(self.follow(total, lambda order: plain_keeps(sizes, order)), sizes)

    def test_all_free_answers_lead_to_the_size_lists(self):
        for total in range(7):
            found = []
            for drawn in product((True, False), repeat=8):
                answers = list(drawn)
                sizes = self.follow(total, lambda order: answers.pop(0))
                if sizes not in found:
                    found.append(sizes)
            self.assertEqual(sorted(found), sorted(size_lists(total)))

    def test_free_answers_for_greater_sums(self):
        rng = random.Random(57)
        for _ in range(60):
            total = rng.randint(8, 60)
            odds = rng.random()
            sizes = self.follow(total, lambda order: rng.random() < odds)
            self.assertEqual((sum(sizes), sizes), (total, sorted(sizes, reverse=True)))
            self.assertTrue(all(entry >= 1 for entry in sizes))

    def test_sum_of_199(self):
        start = time.monotonic()
        self.assertEqual(self.follow(199, lambda order: True), [1] * 199)
        self.assertEqual(self.follow(199, lambda order: False), [199])
        rng = random.Random(199)
        for most in (2, 5, 20, 60, 199):
            sizes = random_sizes(rng, 199, most)
            self.assertEqual(self.follow(199, lambda order: plain_keeps(sizes, order)), sizes)
        self.assertLess(time.monotonic() - start, SECONDS)

    def test_equal_calls_give_equal_answers(self):
        first, second = Prober(20), Prober(20)
        for kept in (False, True, False):
            self.assertEqual((first.question(), first.asked()), (second.question(), second.asked()))
            first.answer(kept)
            second.answer(kept)
        self.assertEqual((first.question(), first.asked()), (second.question(), second.asked()))

    def test_the_found_list_is_new(self):
        for total in (0, 1):
            prober = Prober(total)
            before = prober.found()
            spoil(prober.found())
            self.assertEqual(prober.found(), before)


class Cells(unittest.TestCase):
    """Point 58."""

    def check(self, tree):
        lists = tree.all_sizes()
        best = [cell for cell, sizes in enumerate(lists) if all(safe(sizes, other) for other in lists)]
        free = [cell for cell, sizes in enumerate(lists)
                if not any(safe(other, sizes) and other != sizes for other in lists)]
        self.assertEqual((safest(tree), unbeaten(tree)), (best, free))
        self.assertTrue(free)
        if best:
            self.assertEqual(best, free)
            self.assertEqual(lists[best[0]][:1], min(sizes[:1] for sizes in lists))
        return best

    def test_small_shapes(self):
        self.assertEqual((safest(Tree(1, [])), unbeaten(Tree(1, []))), ([0], [0]))
        self.assertEqual((safest(Tree(2, [(0, 1)])), unbeaten(Tree(2, [(0, 1)]))), ([0, 1], [0, 1]))
        path = Tree(5, [(0, 1), (1, 2), (2, 3), (3, 4)])
        self.assertEqual((safest(path), unbeaten(path)), ([2], [2]))
        star = Tree(4, [(3, 0), (3, 1), (3, 2)])
        self.assertEqual((safest(star), unbeaten(star)), ([3], [3]))

    def test_a_tree_without_a_safest_cell(self):
        # Around 0 hang 3, 3 and a bundle at 1; around 1 hang many single cells and the rest.
        links = [(0, 2), (2, 3), (3, 4), (0, 5), (5, 6), (6, 7), (0, 1)] + [(1, leaf) for leaf in range(8, 13)]
        tree = Tree(13, links)
        self.assertEqual((tree.sizes(0), tree.sizes(1)), ([6, 3, 3], [7, 1, 1, 1, 1, 1]))
        self.assertEqual((safest(tree), unbeaten(tree)), ([], [0, 1]))
        self.check(tree)

    def test_drawn_trees_by_the_words_of_the_point(self):
        rng = random.Random(58)
        found = [self.check(Tree(size, random_links(rng, size))) for size in list(range(1, 17)) * 9 + [30] * 6]
        # With a safest cell and without one.
        self.assertTrue(any(found) and not all(found))

    def test_two_hundred_cells_within_seconds(self):
        start = time.monotonic()
        path = Tree(200, [(cell, cell + 1) for cell in range(199)])
        self.assertEqual((safest(path), unbeaten(path)), ([99, 100], [99, 100]))
        star = Tree(200, [(199, cell) for cell in range(199)])
        self.assertEqual((safest(star), unbeaten(star)), ([199], [199]))
        caterpillar = Tree(200, [(2 * k, 2 * k + 2) for k in range(99)] + [(2 * k, 2 * k + 1) for k in range(100)])
        self.assertEqual((safest(caterpillar), unbeaten(caterpillar)), ([98, 100], [98, 100]))
        tree = Tree(200, random_links(random.Random(200), 200))
        self.assertTrue(set(safest(tree)) <= set(unbeaten(tree)))
        self.assertLess(time.monotonic() - start, SECONDS)
        self.check(tree)


class Separate(unittest.TestCase):
    """Point 2."""

    def test_arguments_stay_as_they_are(self):
        first, second = [3, 1, 1, 1], [2, 2, 2]
        order_against(first, second)
        order_against(second, first)
        for place in range(3):
            refutation(first, place, "K")
            refutation(second, place, "R")
        self.assertEqual((first, second), ([3, 1, 1, 1], [2, 2, 2]))
        with self.assertRaises(UnevenSums):
            order_against(first, [9])
        self.assertEqual(first, [3, 1, 1, 1])

    def test_returned_lists_are_new(self):
        tree = Tree(3, [(0, 1), (1, 2)])
        for function in (safest, unbeaten):
            before = function(tree)
            spoil(function(tree))
            self.assertEqual(function(tree), before)
        self.assertEqual(tree.links(), [(0, 1), (1, 2)])


if __name__ == "__main__":
    unittest.main()
