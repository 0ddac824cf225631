"""Spread: points 64 and 65, with points 2, 3, 6, 21 and 22."""

import random
import time
import unittest
from math import comb

from barebough.spread import keeping_some, spread
from barebough.trees import Tree
from tests.games import Game, path_links, renamed, shapes, star_links
from tests.helpers import cell_kept, orders, plain_keeps, random_links, spoil

SECONDS = 5


def is_path(size, links):
    return all(sum(cell in link for link in links) <= 2 for cell in range(size))


def is_star(size, links):
    return any(sum(cell in link for link in links) == size - 1 for cell in range(size))


def lists_of(size, links):
    """Return the size lists of all cells, found piece by piece."""
    game = Game(size, links)
    return [sorted(map(len, game.pieces(game.all - {cell})), reverse=True) for cell in range(size)]


class Spread(unittest.TestCase):
    """Point 64."""

    def test_one_and_two_cells(self):
        self.assertEqual(spread(Tree(1, [])), [1])
        self.assertEqual(spread(Tree(2, [(0, 1)])), [1, 1])

    def test_paths(self):
        for size in range(1, 31):
            counts = spread(Tree(size, path_links(size)))
            self.assertEqual(counts, [comb(size - 1, cell) for cell in range(size)])
            self.assertEqual(sum(counts), 2 ** (size - 1))

    def test_stars(self):
        for size in range(3, 31):
            self.assertEqual(spread(Tree(size, star_links(size))), [2 ** (size - 2)] + [1] * (size - 1))

    def test_trees_of_up_to_seven_cells_against_all_orders(self):
        rng = random.Random(64)
        for size in range(1, 8):
            for shape in shapes(size):
                links = renamed(rng, size, shape)
                lists = lists_of(size, links)
                counts = [sum(plain_keeps(sizes, order) for order in orders(size - 1)) for sizes in lists]
                self.assertEqual(spread(Tree(size, links)), counts)

    def test_trees_of_up_to_five_cells_against_the_whole_game(self):
        for size in range(1, 6):
            for links in shapes(size):
                counts = [sum(cell_kept(tuple(links), frozenset(range(size)), cell, order)
                              for order in orders(size - 1)) for cell in range(size)]
                self.assertEqual(spread(Tree(size, links)), counts)

    def test_the_bound_and_where_it_is_reached(self):
        rng = random.Random(640)
        trees = [(size, links) for size in range(1, 8) for links in shapes(size)]
        trees += [(size, random_links(rng, size)) for size in (9, 12, 17, 24, 30)]
        for size, links in trees:
            total = sum(spread(Tree(size, links)))
            self.assertLessEqual(total, 2 ** (size - 1))
            self.assertIs(total == 2 ** (size - 1), is_path(size, links), links)

    def test_thirty_cells_within_seconds(self):
        start = time.monotonic()
        rng = random.Random(30)
        comb_links = [(2 * k, 2 * k + 2) for k in range(14)] + [(2 * k, 2 * k + 1) for k in range(15)]
        spider = [(0, 3 * k + 1) for k in range(9)] + [(3 * k + j, 3 * k + j + 1) for k in range(9) for j in (1, 2)]
        for links in [path_links(30), star_links(30), comb_links, spider + [(0, 28), (28, 29)]]:
            self.assertEqual(len(spread(Tree(30, links))), 30)
        for _ in range(5):
            self.assertEqual(len(spread(Tree(30, random_links(rng, 30)))), 30)
        self.assertLess(time.monotonic() - start, SECONDS)


class KeepingSome(unittest.TestCase):
    """Point 65."""

    def test_one_and_two_cells(self):
        self.assertEqual(keeping_some(Tree(1, [])), 1)
        self.assertEqual(keeping_some(Tree(2, [(0, 1)])), 1)

    def test_trees_of_up_to_seven_cells_against_all_orders(self):
        rng = random.Random(65)
        for size in range(1, 8):
            for shape in shapes(size):
                links = renamed(rng, size, shape)
                lists = lists_of(size, links)
                count = sum(any(plain_keeps(sizes, order) for sizes in lists) for order in orders(size - 1))
                self.assertEqual(keeping_some(Tree(size, links)), count)

    def test_trees_of_up_to_five_cells_against_the_whole_game(self):
        for size in range(1, 6):
            for links in shapes(size):
                count = sum(any(cell_kept(tuple(links), frozenset(range(size)), cell, order)
                                for cell in range(size)) for order in orders(size - 1))
                self.assertEqual(keeping_some(Tree(size, links)), count)

    def test_the_bounds_and_where_they_are_reached(self):
        for size in range(1, 9):
            for links in shapes(size):
                count = keeping_some(Tree(size, links))
                least = comb(size - 1, (size - 1) // 2)
                self.assertGreaterEqual(count, least)
                if is_path(size, links):
                    self.assertEqual(count, least)
                if size >= 2:
                    self.assertLessEqual(count, 2 ** (size - 2))
                if size >= 3:
                    self.assertIs(count == 2 ** (size - 2), is_star(size, links))

    def test_eleven_cells_within_seconds(self):
        start = time.monotonic()
        rng = random.Random(11)
        self.assertEqual(keeping_some(Tree(11, path_links(11))), comb(10, 5))
        self.assertEqual(keeping_some(Tree(11, star_links(11))), 2 ** 9)
        for _ in range(4):
            links = random_links(rng, 11)
            lists = {tuple(sizes) for sizes in lists_of(11, links)}
            count = sum(any(plain_keeps(sizes, order) for sizes in lists) for order in orders(10))
            self.assertEqual(keeping_some(Tree(11, links)), count)
        self.assertLess(time.monotonic() - start, SECONDS)


class Separate(unittest.TestCase):
    """Point 2."""

    def test_returned_lists_are_new(self):
        tree = Tree(5, [(0, 1), (1, 2), (1, 3), (3, 4)])
        before = spread(tree)
        spoil(spread(tree))
        self.assertEqual(spread(tree), before)
        self.assertEqual(keeping_some(tree), keeping_some(Tree(5, tree.links())))
        self.assertEqual(tree.links(), [(0, 1), (1, 2), (1, 3), (3, 4)])


if __name__ == "__main__":
    unittest.main()
