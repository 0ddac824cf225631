"""Whole regions: points 70 to 72, with points 2, 3, 8 and 21."""

import random
import time
import unittest

from barebough.boards import Board
from barebough.errors import NotLive, NotRegion, PlayOver, WrongLength
from barebough.reserves import reserve_row, reserves, stays_whole, whole_keeper_pluck, whole_raider_pluck
from barebough.trees import Tree
from tests.games import (Game, board_with, large_trees, path_links, random_region, renamed, shapes,
                         star_links)
from tests.helpers import orders, spoil

SECONDS = 5
# The region 2-4-5 of this tree has the ends 2 and 5: 0-1 hangs at 2, 6 and 7-8 at 5, and 3 at 4.
LINKS = [(2, 1), (1, 0), (2, 4), (4, 3), (4, 5), (5, 6), (5, 7), (7, 8)]


def hanging(game, region, live):
    """Return the live cells that hang at each end, and the neutral ones, by walking to the region."""
    found = {cell: [] for cell in sorted(region) if len(game.near[cell] & set(region)) == 1}
    neutral = []
    for cell in sorted(set(live) - set(region)):
        reached = {cell}
        while not reached & set(region):
            reached |= {other for one in reached for other in game.near[one]}
        (gate,) = reached & set(region)
        found.get(gate, neutral).append(cell)
    return found, neutral


def row_told(order, ends):
    """Return the row by the words of point 71, letter by letter from the last one."""
    if not order:
        return [0] * (ends + 1)
    old = row_told(order[1:], ends)
    total = len(order)
    if order[0] == "R":
        return [old[0]] + [old[j] + 1 for j in range(1, ends + 1)]
    new = {ends: old[ends], ends - 1: old[ends - 1]}
    for j in range(1, ends):
        new[j - 1] = max(old[j - 1], old[j] - (total - 1 - old[j]) // (ends - j))
    return [new[j] for j in range(ends + 1)]


class Case(unittest.TestCase):
    def small_regions(self, most, seed):
        """Yield the size and the links of small trees, each with all regions of two or more cells."""
        rng = random.Random(seed)
        for size in range(2, most + 1):
            for shape in shapes(size):
                links = renamed(rng, size, shape)
                game = Game(size, links)
                yield Tree(size, links), game, [region for region in game.regions() if len(region) > 1]

    def pieces_of(self, function, *arguments):
        with self.assertRaises(NotRegion) as caught:
            function(*arguments)
        return caught.exception.pieces


class Reserves(Case):
    """Point 70."""

    def test_small_regions(self):
        tree = Tree(9, LINKS)
        self.assertEqual(reserves(tree, [2, 4, 5]), ([2, 3], 1))
        self.assertEqual(reserves(tree, [5, 2, 4]), ([2, 3], 1))
        self.assertEqual(reserves(tree, [2, 4]), ([2, 5], 0))
        self.assertEqual(reserves(tree, [4, 3]), ([0, 7], 0))
        self.assertEqual(reserves(tree, [4, 3, 5, 2]), ([0, 2, 3], 0))
        self.assertEqual(reserves(tree, [1, 2, 4, 5, 7]), ([1, 1], 2))
        self.assertEqual(reserves(tree, list(range(9))), ([0, 0, 0, 0], 0))
        self.assertEqual(reserves(Tree(2, [(0, 1)]), [1, 0]), ([0, 0], 0))

    def test_all_regions_of_small_trees(self):
        for tree, game, regions in self.small_regions(7, 70):
            for region in regions:
                found, neutral = hanging(game, region, game.all)
                told = (sorted(map(len, found.values())), len(neutral))
                self.assertEqual(reserves(tree, region[::-1]), told)

    def test_not_a_region_of_two_cells(self):
        tree = Tree(9, LINKS)
        board = Board(tree)
        calls = ((reserves, tree), (stays_whole, tree), (whole_keeper_pluck, board), (whole_raider_pluck, board))
        for region, pieces in (([], 0), ([4], 1), ([0], 1), ([2, 5], 2), ([0, 2], 2), ([3, 6, 8], 3),
                               ([1, 2, 5, 6], 2)):
            for function, place in calls:
                rest = ("K" * (9 - len(region)),) if function is stays_whole else ()
                self.assertEqual(self.pieces_of(function, place, region, *rest), pieces)
        self.assertEqual(self.pieces_of(reserves, Tree(1, []), [0]), 1)
        self.assertEqual(self.pieces_of(stays_whole, Tree(1, []), [0], ""), 1)


class Rows(Case):
    """Point 71."""

    def test_examples(self):
        self.assertEqual([reserve_row("RK", 2), reserve_row("KR", 2)], [[0, 1, 1], [1, 1, 1]])

    def test_no_letter_and_one_letter(self):
        for ends in (2, 3, 7, 200):
            self.assertEqual(reserve_row("", ends), [0] * (ends + 1))
            self.assertEqual(reserve_row("K", ends), [0] * (ends + 1))
            self.assertEqual(reserve_row("R", ends), [0] + [1] * ends)

    def test_by_the_words_of_the_point(self):
        for turns in range(9):
            for order in orders(turns):
                for ends in (2, 3, 4, 6):
                    self.assertEqual(reserve_row(order, ends), row_told(order, ends))

    def test_long_orders(self):
        rng = random.Random(71)
        for turns, ends in ((199, 2), (199, 3), (199, 30), (60, 200), (120, 80)):
            for share in (1, 2, 3):
                order = "".join(rng.choice("K" + "R" * share) for _ in range(turns))
                self.assertEqual(reserve_row(order, ends), row_told(order, ends))
        self.assertEqual(reserve_row("R" * 199, 2), [0, 199, 199])
        self.assertEqual(reserve_row("K" * 199, 200), [0] * 201)

    def test_two_hundred_ends_within_seconds(self):
        start = time.monotonic()
        for order in ("KR" * 99 + "K", "K" * 100 + "R" * 99, "R" * 99 + "K" * 100, "K" * 199, "R" * 199):
            for ends in (2, 3, 100, 200):
                self.assertEqual(len(reserve_row(order, ends)), ends + 1)
        self.assertLess(time.monotonic() - start, SECONDS)


class Whole(Case):
    """Point 71: stays_whole."""

    def test_against_the_whole_game(self):
        fates = set()
        for tree, game, regions in self.small_regions(7, 710):
            for region in regions:
                wins = game.solver(lambda live, cells=frozenset(region): cells <= live)
                for order in orders(tree.size - len(region)):
                    fates.add(wins(order))
                    self.assertIs(stays_whole(tree, region, order), wins(order), (tree.links(), region, order))
        self.assertEqual(fates, {True, False})

    def test_larger_trees_against_the_whole_game(self):
        # Two ends, three ends and a region with neutral cells, with more cells outside.
        for size, links, region in (
                (10, path_links(10), [4, 5]), (9, LINKS, [2, 4, 5]), (9, LINKS, [5, 4]),
                (10, [(0, 1), (0, 2), (0, 3), (1, 4), (4, 5), (2, 6), (6, 7), (3, 8), (8, 9)], [2, 0, 1, 3])):
            tree, game = Tree(size, links), Game(size, links)
            wins = game.solver(lambda live, cells=frozenset(region): cells <= live)
            for order in orders(size - len(region)):
                self.assertIs(stays_whole(tree, region, order), wins(order))

    def test_the_whole_tree_and_bare_ends(self):
        for size in (2, 3, 8, 200):
            self.assertIs(stays_whole(Tree(size, path_links(size)), list(range(size)), ""), True)
        # An end with the reserve 0 falls at the first R, and stays if there is none.
        tree = Tree(5, path_links(5))
        self.assertEqual([stays_whole(tree, [3, 4], order) for order in ("KKK", "KKR", "RKK")], [True, False, False])

    def test_wrong_length(self):
        tree = Tree(9, LINKS)
        for region, order in (([2, 4, 5], "KKKKK"), ([2, 4, 5], "KKKKKKK"), ([4, 5], ""), (list(range(9)), "K"),
                              ([5, 2, 4], "R" * 199)):
            with self.assertRaises(WrongLength) as caught:
                stays_whole(tree, region, order)
            self.assertEqual((caught.exception.given, caught.exception.needed), (len(order), 9 - len(region)))

    def test_not_region_comes_first(self):
        tree = Tree(9, LINKS)
        self.assertEqual(self.pieces_of(stays_whole, tree, [4], "K"), 1)
        self.assertEqual(self.pieces_of(stays_whole, tree, [], "K" * 20), 0)
        self.assertEqual(self.pieces_of(stays_whole, tree, [2, 3], ""), 2)

    def test_two_hundred_cells_within_seconds(self):
        rng = random.Random(7100)
        start = time.monotonic()
        for links in large_trees():
            tree = Tree(200, links)
            for many in (2, 3, 60, 120, 199, 200):
                region = random_region(rng, 200, links, many)
                self.assertIs(stays_whole(tree, region, "K" * (200 - many)), True)
                order = "".join(rng.choice("KKR") for _ in range(200 - many))
                least, _ = reserves(tree, region)
                told = all(sum(least[:j]) >= bound for j, bound in enumerate(row_told(order, len(least))))
                self.assertIs(stays_whole(tree, region, order), told)
        self.assertLess(time.monotonic() - start, SECONDS)


class Guides(Case):
    """Point 72."""

    def both(self, board, region):
        return whole_keeper_pluck(board, region), whole_raider_pluck(board, region)

    def board(self, *gone):
        board = Board(Tree(9, LINKS))
        for cell in gone:
            board.pluck(cell)
        return board

    def test_with_and_without_neutral_cells(self):
        self.assertEqual(self.both(self.board(), [2, 4, 5]), (3, 0))
        self.assertEqual(self.both(self.board(3), [2, 4, 5]), (6, 0))
        self.assertEqual(self.both(self.board(3, 6), [5, 2, 4]), (0, 0))
        self.assertEqual(self.both(self.board(3, 6, 8), [5, 2, 4]), (0, 7))
        # Neutral cells that hang at several cells of the region.
        self.assertEqual(self.both(self.board(), [1, 2, 4, 5, 7]), (3, 0))
        self.assertEqual(self.both(self.board(3), [1, 2, 4, 5, 7]), (6, 0))

    def test_ends_that_are_live_tips(self):
        self.assertEqual(self.both(self.board(0, 1), [2, 4, 5]), (3, 2))
        self.assertEqual(self.both(self.board(6, 8, 7), [2, 4, 5]), (3, 5))
        self.assertEqual(self.both(self.board(0, 1, 6, 8, 7), [2, 4, 5]), (3, 2))
        self.assertEqual(self.both(self.board(), [4, 3]), (0, 3))

    def test_several_ends_with_the_same_reserve(self):
        # The ends 1, 2 and 3 around 0, each with a path of two cells.
        links = [(0, 1), (0, 2), (0, 3), (1, 9), (9, 8), (2, 7), (7, 6), (3, 5), (5, 4)]
        board = Board(Tree(10, links))
        region = [3, 0, 2, 1]
        self.assertEqual(self.both(board, region), (8, 8))
        board.pluck(8)
        self.assertEqual(self.both(board, region), (6, 9))
        board.pluck(6)
        self.assertEqual(self.both(board, region), (4, 9))
        board.pluck(4)
        self.assertEqual(self.both(board, region), (9, 9))
        board.pluck(5)
        self.assertEqual(self.both(board, region), (9, 3))

    def test_by_the_words_of_the_point(self):
        for tree, game, regions in self.small_regions(6, 72):
            lives = [frozenset(cells) for cells in game.regions()]
            for region in regions:
                for live in lives:
                    if set(region) < live:
                        board = board_with(Board(tree), live)
                        self.assertEqual(self.both(board, region[::-1]), self.told(game, region, live))
                        self.assertEqual(board.live(), sorted(live))

    def told(self, game, region, live):
        tips = game.loose(live)
        found, neutral = hanging(game, region, live)
        most, least = max(map(len, found.values())), min(map(len, found.values()))
        largest = min(end for end, cells in found.items() if len(cells) == most)
        smallest = min(end for end, cells in found.items() if len(cells) == least)
        bare = sorted(set(found) & set(tips))
        keeper = min(set(tips) & set(neutral or found[largest]))
        return keeper, bare[0] if bare else min(set(tips) & set(found[smallest]))

    def test_not_region_comes_first(self):
        for board in (self.board(), self.board(0, 1, 2, 3)):
            for guide in (whole_keeper_pluck, whole_raider_pluck):
                for region, pieces in (([], 0), ([2], 1), ([8], 1), ([0, 2], 2), ([2, 5], 2)):
                    self.assertEqual(self.pieces_of(guide, board, region), pieces)

    def test_the_lowest_dead_cell_of_the_region(self):
        for gone, region, lowest in (((0, 1), [2, 1], 1), ((0, 1), [2, 1, 0], 0), ((6, 8, 7), [8, 7, 5], 7),
                                     ((0, 1, 2, 3), [5, 4, 3, 2], 2), ((8,), [7, 8], 8)):
            board = self.board(*gone)
            for guide in (whole_keeper_pluck, whole_raider_pluck):
                with self.assertRaises(NotLive) as caught:
                    guide(board, region)
                self.assertEqual(caught.exception.cell, lowest)
            self.assertEqual(board.plucked(), list(gone))

    def test_no_live_cell_outside(self):
        for board, region in ((self.board(), list(range(9))), (self.board(0, 1, 3, 6, 8, 7), [4, 2, 5]),
                              (Board(Tree(2, [(0, 1)])), [0, 1])):
            for guide in (whole_keeper_pluck, whole_raider_pluck):
                with self.assertRaises(PlayOver):
                    guide(board, region)
        # A dead cell of the region comes ahead of that.
        with self.assertRaises(NotLive) as caught:
            whole_keeper_pluck(self.board(0, 1, 3, 6, 8, 7, 2), [4, 2, 5])
        self.assertEqual(caught.exception.cell, 2)

    def test_guided_plays(self):
        for tree, game, regions in self.small_regions(7, 720):
            for region in regions:
                def good(live, cells=frozenset(region)):
                    return cells <= live

                def keeper(live, cells=tuple(region)):
                    return whole_keeper_pluck(board_with(Board(tree), live), list(cells))

                def raider(live, cells=tuple(region)):
                    return whole_raider_pluck(board_with(Board(tree), live), list(cells))

                whole, broken = game.guided("K", keeper, good), game.guided("R", raider, good)
                for order in orders(tree.size - len(region)):
                    if stays_whole(tree, region, order):
                        self.assertEqual(whole(order), {True})
                    else:
                        self.assertEqual(broken(order), {False})

    def test_two_hundred_cells_within_seconds(self):
        rng = random.Random(7200)
        start = time.monotonic()
        for links in large_trees():
            board = Board(Tree(200, links))
            for many in (2, 50, 199):
                region = random_region(rng, 200, links, many)
                for cell in self.both(board, region):
                    self.assertIn(cell, board.tips())
        self.assertLess(time.monotonic() - start, SECONDS)


class Separate(Case):
    """Point 2."""

    def test_arguments_stay_as_they_are(self):
        tree = Tree(9, LINKS)
        board = Board(tree)
        region = [5, 2, 4]
        first = (reserves(tree, region), stays_whole(tree, region, "KRKRKK"), self.answers(board, region))
        self.assertEqual((region, board.live(), board.plucked()), ([5, 2, 4], list(range(9)), []))
        second = (reserves(tree, region), stays_whole(tree, region, "KRKRKK"), self.answers(board, region))
        self.assertEqual(first, second)
        self.assertEqual(tree.links(), sorted((min(link), max(link)) for link in LINKS))

    def answers(self, board, region):
        return whole_keeper_pluck(board, region), whole_raider_pluck(board, region)

    def test_returned_lists_are_new(self):
        tree = Tree(9, LINKS)
        found, neutral = reserves(tree, [2, 4, 5])
        spoil(found)
        self.assertEqual(reserves(tree, [2, 4, 5]), ([2, 3], 1))
        for order in ("", "KRRK"):
            before = reserve_row(order, 3)
            spoil(reserve_row(order, 3))
            self.assertEqual(reserve_row(order, 3), before)


if __name__ == "__main__":
    unittest.main()
