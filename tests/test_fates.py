"""Fates: points 44 and 45, with points 2, 3, 21 to 23, 28 and 30."""

import random
import time
import unittest
from itertools import product

from barebough.errors import WrongLength
from barebough.fates import hour, kept, kept_cells, plain_play
from barebough.orders import telling_order
from barebough.rows import free_row
from barebough.trees import Tree
from tests.helpers import (cell_kept, game_keeps, orders, plain_keeps, random_links, random_sizes, safe, size_lists,
                           spoil, top_sum)

SECONDS = 5


def short_orders(most):
    return [order for turns in range(most + 1) for order in orders(turns)]


class Plain(unittest.TestCase):
    """Point 44: the plain play."""

    def test_empty_list_and_empty_order(self):
        self.assertEqual([plain_play([], ""), hour([], "")], [[[]], None])
        self.assertEqual([plain_play([3, 1], ""), hour([3, 1], "")], [[[3, 1]], None])

    def test_keeper_lowers_a_largest_entry_and_raider_a_smallest(self):
        self.assertEqual(plain_play([3, 2, 1], "KRK"), [[3, 2, 1], [2, 2, 1], [2, 2], [2, 1]])
        self.assertEqual(plain_play([2, 2], "RK"), [[2, 2], [2, 1], [1, 1]])
        self.assertEqual(plain_play([3, 2], "RRK"), [[3, 2], [3, 1], [3], [2]])
        self.assertEqual(plain_play([1], "K"), [[1], []])

    def test_fall_at_the_first_turn(self):
        for sizes, order in (([1], "R"), ([4], "RKKK"), ([4], "R")):
            self.assertEqual([plain_play(sizes, order), hour(sizes, order)], [[sizes], 1])

    def test_fall_at_a_later_turn(self):
        self.assertEqual([plain_play([2, 1], "RRK"), hour([2, 1], "RRK")], [[[2, 1], [2]], 2])
        self.assertEqual([plain_play([3], "KRK"), hour([3], "KRK")], [[[3], [2]], 2])
        # Nothing is added for the turns behind the fall.
        self.assertEqual(len(plain_play([5], "KR" * 2)), 2)

    def test_fall_at_the_last_turn(self):
        self.assertEqual([plain_play([2, 1], "KKR"), hour([2, 1], "KKR")], [[[2, 1], [1, 1], [1]], 3])
        self.assertEqual([plain_play([2, 2], "KRRR"), hour([2, 2], "KRRR")], [[[2, 2], [2, 1], [2]], 3])
        self.assertEqual(hour([1, 1], "RR"), 2)

    def test_no_fall(self):
        self.assertEqual([plain_play([2, 1], "KRK"), hour([2, 1], "KRK")], [[[2, 1], [1, 1], [1], []], None])
        self.assertIsNone(hour([4], "KKKK"))

    def test_small_lists_by_the_words_of_the_point(self):
        for total in range(7):
            for sizes in size_lists(total):
                for order in short_orders(total):
                    self.check_play(sizes, order)

    def check_play(self, sizes, order):
        stages = plain_play(sizes, order)
        self.assertEqual(stages[0], sizes)
        for letter, before, after in zip(order, stages, stages[1:]):
            entries = before[:]
            place = 0 if letter == "K" else len(entries) - 1
            entries[place] -= 1
            self.assertEqual(after, sorted((entry for entry in entries if entry), reverse=True))
            self.assertTrue(letter == "K" or len(before) > 1)
        if hour(sizes, order) is None:
            self.assertEqual(len(stages), len(order) + 1)
        else:
            self.assertEqual(hour(sizes, order), len(stages))
            self.assertTrue(order[len(stages) - 1] == "R" and len(stages[-1]) <= 1)

    def test_hour_by_the_game(self):
        """Raider can make a lost cell fall at this turn, and not earlier."""
        for total in range(7):
            for sizes in size_lists(total):
                for order in short_orders(total):
                    lost = [turns for turns in range(len(order) + 1) if not game_keeps(sizes, order[:turns])]
                    self.assertEqual(hour(sizes, order), min(lost, default=None))

    def test_wrong_length(self):
        for function in (plain_play, hour):
            for sizes, order in (([], "K"), ([1], "KR"), ([2, 1], "RRRR"), ([4], "R" * 9)):
                with self.assertRaises(WrongLength) as caught:
                    function(sizes, order)
                self.assertEqual((caught.exception.given, caught.exception.needed), (len(order), sum(sizes)))


class Kept(unittest.TestCase):
    """Point 45: size lists."""

    def test_small_lists_by_the_game(self):
        for total in range(7):
            for sizes in size_lists(total):
                for order in short_orders(total):
                    self.assertIs(kept(sizes, order), game_keeps(sizes, order))
                    self.assertIs(kept(sizes, order), plain_keeps(sizes, order))
                    self.assertIs(kept(sizes, order), hour(sizes, order) is None)

    def test_goals_by_the_game(self):
        for left in range(4):
            for goal in product(range(-1, left + 2), repeat=left):
                for order in short_orders(3):
                    for sizes in size_lists(left + len(order)):
                        expected = game_keeps(sizes, order, goal)
                        self.assertIs(kept(sizes, order, goal=goal), expected)
                        self.assertIs(kept(sizes, order, goal=list(goal)), expected)

    def test_goal_none_and_free_and_empty(self):
        for total in range(6):
            for sizes in size_lists(total):
                for order in short_orders(total):
                    left = total - len(order)
                    self.assertIs(kept(sizes, order, goal=None), kept(sizes, order, goal=free_row(left)))
                    self.assertIs(kept(sizes, order, goal=(left + 5,) * left), kept(sizes, order))
        self.assertEqual([kept([], ""), kept([], "", goal=[]), kept([], "", goal=())], [True] * 3)
        self.assertEqual([kept([2, 1], "KRK", goal=()), kept([3], "KRK", goal=[])], [True, False])

    def test_great_and_negative_bounds(self):
        self.assertEqual([kept([1, 1], "K", goal=[1000000]), kept([1, 1], "K", goal=[-1000000])], [True, False])
        self.assertEqual([kept([2, 1], "", goal=[9, 9, 2]), kept([2, 1], "", goal=[2, 3, 3])], [False, True])

    def test_wrong_length(self):
        for sizes, order, goal, given, needed in (
                ([1], "KR", None, 2, 1), ([], "K", None, 1, 0), ([1], "KR", [], 2, 1), ([1], "KR", [1, 1], 2, 1),
                ([2, 1], "K", [], 0, 2), ([2, 1], "K", (1,), 1, 2), ([2, 1], "K", [1, 2, 3], 3, 2),
                ([2, 1], "KRK", [1], 1, 0), ([], "", (0,), 1, 0), ([2], "", (), 0, 2)):
            with self.assertRaises(WrongLength) as caught:
                kept(sizes, order, goal=goal)
            self.assertEqual((caught.exception.given, caught.exception.needed), (given, needed))

    def test_the_goal_is_passed_by_name(self):
        with self.assertRaises(TypeError):
            kept([1, 1], "K", [1])

    def test_laws_of_points_22_and_23(self):
        for order in orders(7):
            lists = [sizes for sizes in size_lists(7) if kept(sizes, order)]
            for sizes in size_lists(7):
                self.assertIs(sizes in lists, any(safe(sizes, other) for other in lists))
        for total in range(2, 8):
            for limit in range(2, total + 1):
                for count in range(1, limit):
                    for sizes in size_lists(total):
                        self.assertIs(kept(sizes, telling_order(total, count, limit)), top_sum(sizes, count) < limit)

    def test_long_orders_within_seconds(self):
        start = time.monotonic()
        rng = random.Random(45)
        for _ in range(40):
            sizes = random_sizes(rng, 199, rng.choice([5, 40, 199]))
            order = "".join(rng.choice("KKR") for _ in range(rng.randint(150, 199)))
            self.assertIs(kept(sizes, order), plain_keeps(sizes, order))
            self.assertIs(hour(sizes, order) is None, plain_keeps(sizes, order))
        self.assertLess(time.monotonic() - start, SECONDS)


class Cells(unittest.TestCase):
    """Points 21 and 45: the cells of a tree."""

    def test_small_trees_by_the_game(self):
        rng = random.Random(21)
        for size in (1, 2, 3, 4, 5, 5, 5, 6):
            links = random_links(rng, size)
            tree = Tree(size, links)
            for order in short_orders(size - 1):
                found = [cell for cell in range(size)
                         if cell_kept(tuple(links), frozenset(range(size)), cell, order)]
                self.assertEqual(kept_cells(tree, order), found)

    def test_each_cell_as_its_size_list(self):
        rng = random.Random(450)
        for _ in range(40):
            size = rng.randint(1, 14)
            tree = Tree(size, random_links(rng, size))
            order = "".join(rng.choice("KR") for _ in range(rng.randint(0, size - 1)))
            self.assertEqual(kept_cells(tree, order), [cell for cell in range(size) if kept(tree.sizes(cell), order)])

    def test_empty_order_keeps_all_cells(self):
        self.assertEqual(kept_cells(Tree(4, [(0, 1), (1, 2), (2, 3)]), ""), [0, 1, 2, 3])
        self.assertEqual(kept_cells(Tree(1, []), ""), [0])

    def test_no_cell(self):
        self.assertEqual(kept_cells(Tree(3, [(0, 1), (1, 2)]), "KR"), [])
        self.assertEqual(kept_cells(Tree(3, [(0, 1), (1, 2)]), "RK"), [1])

    def test_wrong_length(self):
        for tree, order in ((Tree(1, []), "K"), (Tree(3, [(0, 1), (1, 2)]), "KRK"), (Tree(2, [(0, 1)]), "RRRR")):
            with self.assertRaises(WrongLength) as caught:
                kept_cells(tree, order)
            self.assertEqual((caught.exception.given, caught.exception.needed), (len(order), tree.size - 1))

    def test_two_hundred_cells_within_seconds(self):
        start = time.monotonic()
        path = Tree(200, [(cell, cell + 1) for cell in range(199)])
        # On a path the cells whose longer side is short enough are kept under a fair order.
        self.assertEqual(kept_cells(path, "KR" * 99 + "K"), [99, 100])
        self.assertEqual(kept_cells(path, "RK" * 99 + "K"), [99, 100])
        star = Tree(200, [(0, cell) for cell in range(1, 200)])
        self.assertEqual(kept_cells(star, "R" * 198 + "K"), [0])
        rng = random.Random(200)
        tree = Tree(200, random_links(rng, 200))
        order = "KKR" * 60
        self.assertEqual(kept_cells(tree, order), [cell for cell in range(200) if plain_keeps(tree.sizes(cell), order)])
        self.assertLess(time.monotonic() - start, SECONDS)


class Separate(unittest.TestCase):
    """Point 2."""

    def test_arguments_and_results(self):
        tree = Tree(3, [(0, 1), (1, 2)])
        calls = [(plain_play, ([2, 1], "KK"), {}), (plain_play, ([3], "R"), {}), (plain_play, ([], ""), {}),
                 (hour, ([2, 1], "KKR"), {}), (kept, ([2, 1], "KK"), {"goal": [1]}),
                 (kept, ([2, 1], ""), {"goal": [2, 3, 3]}), (kept, ([2, 1], "KK"), {"goal": None}),
                 (kept_cells, (tree, "K"), {})]
        for function, arguments, named in calls:
            before = repr((arguments[0], named)) if arguments[0] is not tree else repr(tree.links())
            result = function(*arguments, **named)
            told = repr(result)
            spoil(result)
            self.assertEqual(repr((arguments[0], named)) if arguments[0] is not tree else repr(tree.links()), before)
            self.assertEqual(repr(function(*arguments, **named)), told)

    def test_the_lists_of_a_play_are_separate(self):
        stages = plain_play([2, 2], "KK")
        stages[0].append(99)
        self.assertEqual(stages, [[2, 2, 99], [2, 1], [1, 1]])


if __name__ == "__main__":
    unittest.main()
