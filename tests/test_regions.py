"""Regions: points 66 to 69, with points 2, 3, 8, 21, 22 and 24."""

import random
import time
import unittest

from barebough.boards import Board
from barebough.errors import LastCell, NotRegion, OutOfRange, WrongLength
from barebough.orders import is_fair
from barebough.regions import (outer_sizes, region_fate, region_keeper_pluck, region_raider_pluck,
                               strongholds)
from barebough.trees import Tree
from tests.games import (Game, board_with, large_trees, path_links, random_region, renamed, shapes,
                         star_links)
from tests.helpers import orders, plain_keeps, random_links, spoil

SECONDS = 5
PATH = Tree(5, [(0, 1), (1, 2), (2, 3), (3, 4)])
# 3 has the neighbours 1, 4 and 6; behind 1 hang 0 and 2, behind 4 hangs 5, behind 6 hang 7 and 8.
LINKS = [(3, 1), (1, 0), (1, 2), (3, 4), (4, 5), (3, 6), (6, 7), (7, 8)]


def fate_told(outer, cells, order):
    """Return the fate of a region by the words of point 67."""
    if order.count("R") < cells:
        return "held"
    if plain_keeps(sorted(outer + [1] * (cells - 1), reverse=True), order):
        return "held"
    letters = list(order)
    for _ in range(cells - 1):
        last = max(index for index, letter in enumerate(letters) if letter == "R")
        del letters[last]
    return "open" if plain_keeps(outer, "".join(letters)) else "stripped"


class Case(unittest.TestCase):
    def pieces_of(self, function, *arguments):
        with self.assertRaises(NotRegion) as caught:
            function(*arguments)
        return caught.exception.pieces

    def small_trees(self, most, seed):
        rng = random.Random(seed)
        for size in range(1, most + 1):
            for shape in shapes(size):
                yield size, renamed(rng, size, shape)


class Outer(Case):
    """Point 66."""

    def test_one_cell_and_all_cells(self):
        tree = Tree(9, LINKS)
        self.assertEqual([outer_sizes(tree, [cell]) for cell in range(9)], tree.all_sizes())
        self.assertEqual(outer_sizes(tree, list(range(9))), [])
        self.assertEqual(outer_sizes(Tree(1, []), [0]), [])

    def test_cells_in_any_order(self):
        tree = Tree(9, LINKS)
        for region in ([3, 4], [4, 3]):
            self.assertEqual(outer_sizes(tree, region), [3, 3, 1])
        for region in ([1, 3, 6], [6, 1, 3], [3, 6, 1]):
            self.assertEqual(outer_sizes(tree, region), [2, 2, 1, 1])

    def test_all_regions_of_small_trees(self):
        for size, links in self.small_trees(7, 66):
            game = Game(size, links)
            tree = Tree(size, links)
            for region in game.regions():
                told = sorted(map(len, game.pieces(game.all - set(region))), reverse=True)
                self.assertEqual(outer_sizes(tree, region[::-1]), told)

    def test_not_one_piece(self):
        tree = Tree(9, LINKS)
        board = Board(tree)
        calls = ((outer_sizes, tree), (region_fate, tree), (region_keeper_pluck, board), (region_raider_pluck, board))
        for region, pieces in (([], 0), ([0, 3], 2), ([0, 2], 2), ([8, 0, 2], 3), ([0, 1, 2, 4, 6], 3),
                               ([5, 0, 8, 2, 3], 5), ([1, 4, 6], 3)):
            for function, place in calls:
                rest = ("K" * 8,) if function is region_fate else ()
                self.assertEqual(self.pieces_of(function, place, region, *rest), pieces)

    def test_all_cell_sets_of_a_small_tree(self):
        game = Game(6, [(0, 4), (4, 1), (1, 3), (1, 5), (5, 2)])
        tree = Tree(6, [(0, 4), (4, 1), (1, 3), (1, 5), (5, 2)])
        for number in range(64):
            cells = [cell for cell in range(6) if number >> cell & 1]
            pieces = len(game.pieces(cells))
            if pieces != 1:
                self.assertEqual(self.pieces_of(outer_sizes, tree, cells), pieces)


class Fate(Case):
    """Point 67."""

    def test_example(self):
        self.assertEqual([region_fate(PATH, [1, 2], order) for order in ("KRRK", "RRRK", "RKKR")],
                         ["held", "stripped", "open"])

    def test_by_the_words_of_the_point(self):
        for size, links in self.small_trees(7, 67):
            game = Game(size, links)
            tree = Tree(size, links)
            for region in game.regions():
                outer = sorted(map(len, game.pieces(game.all - set(region))), reverse=True)
                for order in orders(size - 1):
                    self.assertEqual(region_fate(tree, region, order), fate_told(outer, len(region), order))

    def test_held_and_stripped_against_the_whole_game(self):
        seen = {"held": set(), "stripped": set(), "open": set()}
        for size, links in self.small_trees(7, 670):
            game = Game(size, links)
            tree = Tree(size, links)
            for region in game.regions():
                wins = game.solver(lambda live, cells=frozenset(region): bool(live & cells))
                for order in orders(size - 1):
                    fate = region_fate(tree, region, order)
                    held = wins(order)
                    seen[fate].add(held)
                    if len(region) == 1 or is_fair(order):
                        self.assertNotEqual(fate, "open")
        self.assertEqual(seen, {"held": {True}, "stripped": {False}, "open": {True, False}})

    def test_fair_orders(self):
        for size, links in self.small_trees(7, 671):
            game = Game(size, links)
            tree = Tree(size, links)
            fair = [order for order in orders(size - 1) if is_fair(order)]
            for region in game.regions():
                most = max(map(len, game.pieces(game.all - set(region))), default=0)
                for order in fair:
                    told = "held" if most <= order.count("K") else "stripped"
                    self.assertEqual(region_fate(tree, region, order), told)

    def test_few_letters_r(self):
        # Fewer letters R than cells of the region: there are not even enough to strike out.
        for order in ("KKKK", "KKKR", "RKKK"):
            self.assertEqual(region_fate(PATH, [4, 3], order), "held")
        self.assertEqual(region_fate(PATH, [0, 1, 2, 3, 4], "RRRR"), "held")
        self.assertEqual(region_fate(PATH, [0, 1, 2, 3], "RRRR"), "stripped")
        self.assertEqual(region_fate(PATH, [0, 1, 2, 3], "RRRK"), "held")
        self.assertEqual(region_fate(Tree(1, []), [0], ""), "held")

    def test_one_cell(self):
        for order in orders(4):
            for cell in range(5):
                kept = plain_keeps(PATH.sizes(cell), order)
                self.assertEqual(region_fate(PATH, [cell], order), "held" if kept else "stripped")

    def test_wrong_length(self):
        for order in ("", "KRR", "KRRKK", "R" * 9):
            with self.assertRaises(WrongLength) as caught:
                region_fate(PATH, [1, 2], order)
            self.assertEqual((caught.exception.given, caught.exception.needed), (len(order), 4))
        with self.assertRaises(WrongLength):
            region_fate(Tree(1, []), [0], "K")

    def test_not_region_comes_first(self):
        for order in ("", "KRRK", "KRRKK"):
            self.assertEqual(self.pieces_of(region_fate, PATH, [], order), 0)
            self.assertEqual(self.pieces_of(region_fate, PATH, [4, 0, 2], order), 3)

    def test_two_hundred_cells_within_seconds(self):
        rng = random.Random(200)
        start = time.monotonic()
        for links in large_trees():
            tree = Tree(200, links)
            for many in (1, 2, 70, 199, 200):
                region = random_region(rng, 200, links, many)
                for order in ("KR" * 99 + "K", "R" * 99 + "K" * 100):
                    outer = outer_sizes(tree, region)
                    self.assertEqual(sum(outer), 200 - many)
                    self.assertEqual(region_fate(tree, region, order), fate_told(outer, many, order))
        self.assertLess(time.monotonic() - start, SECONDS)


class Strongholds(Case):
    """Point 68."""

    def test_small_shapes(self):
        self.assertEqual(strongholds(Tree(1, []), 0), ("keep", [0]))
        self.assertEqual([strongholds(Tree(2, [(0, 1)]), turns) for turns in (0, 1)],
                         [("backbone", [0, 1]), ("keep", [0, 1])])
        self.assertEqual([strongholds(PATH, turns) for turns in range(5)],
                         [("backbone", [0, 1, 2, 3, 4]), ("backbone", [1, 2, 3]), ("keep", [2]),
                          ("keep", [1, 2, 3]), ("keep", [0, 1, 2, 3, 4])])
        star = Tree(5, star_links(5))
        self.assertEqual([strongholds(star, turns) for turns in range(5)],
                         [("backbone", [0, 1, 2, 3, 4])] + [("keep", [0])] * 3 + [("keep", [0, 1, 2, 3, 4])])

    def test_by_the_words_of_the_point(self):
        rng = random.Random(68)
        trees = list(self.small_trees(6, 68)) + [(size, random_links(rng, size)) for size in (9, 14, 20, 27)]
        for size, links in trees:
            game = Game(size, links)
            for turns in range(size):
                keep = [cell for cell in range(size)
                        if all(len(piece) <= turns for piece in game.pieces(game.all - {cell}))]
                backbone = set()
                for one, other in links:
                    cut = Game(size, [link for link in links if link != (one, other)])
                    if all(len(piece) > turns for piece in cut.pieces(game.all)):
                        backbone |= {one, other}
                told = ("keep", keep) if keep else ("backbone", sorted(backbone))
                self.assertEqual(strongholds(Tree(size, links), turns), told)
                self.assertEqual(len(game.pieces(told[1])), 1)
                if keep:
                    self.assertLessEqual(len(keep), max(1, 2 * turns - size + 2))
                else:
                    self.assertGreaterEqual(len(backbone), 2)

    def test_regions_that_are_held_under_fair_orders(self):
        for size, links in self.small_trees(7, 680):
            tree = Tree(size, links)
            fair = [order for order in orders(size - 1) if is_fair(order)]
            told = [strongholds(tree, turns) for turns in range(size)]
            for region in Game(size, links).regions():
                for order in fair:
                    kind, cells = told[order.count("K")]
                    held = any(cell in region for cell in cells) if kind == "keep" else set(cells) <= set(region)
                    self.assertEqual(region_fate(tree, region, order), "held" if held else "stripped")

    def test_out_of_range(self):
        for tree in (PATH, Tree(1, [])):
            for turns in (-1, tree.size, -100, 1000):
                with self.assertRaises(OutOfRange) as caught:
                    strongholds(tree, turns)
                self.assertEqual(caught.exception.value, turns)

    def test_two_hundred_cells_within_seconds(self):
        start = time.monotonic()
        self.assertEqual(strongholds(Tree(200, path_links(200)), 99), ("backbone", [99, 100]))
        self.assertEqual(strongholds(Tree(200, path_links(200)), 100), ("keep", [99, 100]))
        self.assertEqual(strongholds(Tree(200, path_links(200)), 3), ("backbone", list(range(3, 197))))
        for links in large_trees():
            for turns in (0, 1, 60, 99, 100, 150, 199):
                kind, cells = strongholds(Tree(200, links), turns)
                self.assertTrue(cells)
                self.assertIn(kind, ("keep", "backbone"))
        self.assertLess(time.monotonic() - start, SECONDS)


class Guides(Case):
    """Point 69."""

    def both(self, board, region):
        return region_keeper_pluck(board, region), region_raider_pluck(board, region)

    def board(self, *gone):
        board = Board(Tree(9, LINKS))
        for cell in gone:
            board.pluck(cell)
        return board

    def test_no_outer_piece(self):
        self.assertEqual(self.both(self.board(), list(range(9))), (0, 0))
        self.assertEqual(self.both(self.board(0, 2, 1), [3, 4, 5, 6, 7, 8]), (5, 5))

    def test_one_outer_piece(self):
        # Keeper plucks the piece, and Raider the region, also where the piece has the lowest tip.
        self.assertEqual(self.both(self.board(), [3, 4, 5, 6, 7, 8]), (0, 5))
        self.assertEqual(self.both(self.board(), [8, 7, 6]), (0, 8))
        self.assertEqual(self.both(self.board(), [0, 1, 2]), (5, 0))
        self.assertEqual(self.both(self.board(0, 2, 1, 5, 4, 8, 7), [6]), (3, 6))

    def test_several_outer_pieces(self):
        # Around 3 and 1: 0 and 2, 4-5, 6-7-8.
        self.assertEqual(self.both(self.board(), [3, 1]), (8, 0))
        self.assertEqual(self.both(self.board(0), [3, 1]), (8, 2))
        self.assertEqual(self.both(self.board(8), [1, 3]), (5, 0))
        self.assertEqual(self.both(self.board(0, 2), [1, 3]), (8, 5))
        # Around 3: 0-1-2 and 6-7-8 are the largest pieces, and the first has the lowest cell.
        self.assertEqual(self.both(self.board(), [3]), (0, 5))
        self.assertEqual(self.both(self.board(5, 4), [3]), (0, 0))

    def test_the_lowest_cell_decides_not_the_lowest_neighbour(self):
        # Around 2: the pieces 3-1 and 4-0 have the lowest cells 1 and 0.
        board = Board(Tree(5, [(2, 3), (3, 1), (2, 4), (4, 0)]))
        self.assertEqual(self.both(board, [2]), (0, 0))
        # Around 4: 5 is a tip with a lower neighbour than 6-0, but 6-0 has the lowest cell.
        board = Board(Tree(7, [(4, 5), (5, 2), (4, 6), (6, 1), (4, 3), (3, 0)]))
        self.assertEqual(self.both(board, [4]), (0, 0))
        board.pluck(0)
        board.pluck(3)
        self.assertEqual(self.both(board, [4]), (1, 1))

    def test_regions_that_have_been_plucked_in_part(self):
        board = self.board(8, 7)
        self.assertEqual(self.both(board, [6, 7, 8]), (0, 6))
        self.assertEqual(self.both(board, [3, 6, 7, 8]), (0, 5))
        board.pluck(6)
        self.assertEqual(self.both(board, [3, 6, 7]), (0, 5))

    def test_by_the_words_of_the_point(self):
        for size, links in self.small_trees(6, 69):
            game = Game(size, links)
            for region in game.regions():
                for live in self.connected(game):
                    if len(live) > 1 and live & set(region):
                        board = board_with(Board(Tree(size, links)), live)
                        self.assertEqual(self.both(board, region[::-1]), self.told(game, live, set(region)))
                        self.assertEqual(board.live(), sorted(live))

    def connected(self, game):
        return [frozenset(cells) for cells in game.regions()]

    def told(self, game, live, region):
        tips = game.loose(live)
        pieces = game.pieces(live - region)
        if not pieces:
            return tips[0], min(set(tips) & region)
        most, least = max(map(len, pieces)), min(map(len, pieces))
        largest = min(piece for piece in pieces if len(piece) == most)
        smallest = min(piece for piece in pieces if len(piece) == least) if len(pieces) > 1 else region
        return min(set(tips) & set(largest)), min(set(tips) & set(smallest))

    def test_errors_in_their_order(self):
        board = self.board()
        for guide in (region_keeper_pluck, region_raider_pluck):
            self.assertEqual(self.pieces_of(guide, board, []), 0)
            self.assertEqual(self.pieces_of(guide, board, [0, 2]), 2)
        board = self.board(5, 4, 8, 7, 6)
        for guide in (region_keeper_pluck, region_raider_pluck):
            # The region counts in its tree, also where all or some of it is dead.
            self.assertEqual(self.pieces_of(guide, board, [5, 7]), 2)
            self.assertEqual(self.pieces_of(guide, board, [4, 5]), 0)
            self.assertEqual(self.pieces_of(guide, board, [8, 6, 7]), 0)
        board = self.board(5, 4, 8, 7, 6, 3, 0, 1)
        for guide in (region_keeper_pluck, region_raider_pluck):
            self.assertEqual(self.pieces_of(guide, board, [0, 2]), 2)
            self.assertEqual(self.pieces_of(guide, board, [1, 0]), 0)
            for region in ([2], [2, 1], [3, 1, 2]):
                with self.assertRaises(LastCell) as caught:
                    guide(board, region)
                self.assertEqual(caught.exception.cell, 2)
        self.assertEqual(board.live(), [2])
        for guide in (region_keeper_pluck, region_raider_pluck):
            with self.assertRaises(LastCell) as caught:
                guide(Board(Tree(1, [])), [0])
            self.assertEqual(caught.exception.cell, 0)

    def test_guided_plays(self):
        for size, links in self.small_trees(6, 690):
            game = Game(size, links)
            tree = Tree(size, links)
            for region in game.regions():
                def good(live, cells=frozenset(region)):
                    return bool(live & cells)

                def keeper(live, cells=tuple(region)):
                    return region_keeper_pluck(board_with(Board(tree), live), list(cells))

                def raider(live, cells=tuple(region)):
                    return region_raider_pluck(board_with(Board(tree), live), list(cells))

                kept, stripped = game.guided("K", keeper, good), game.guided("R", raider, good)
                for order in orders(size - 1):
                    fate = region_fate(tree, region, order)
                    if fate == "held":
                        self.assertEqual(kept(order), {True})
                    if fate == "stripped":
                        self.assertEqual(stripped(order), {False})

    def test_two_hundred_cells_within_seconds(self):
        rng = random.Random(69)
        start = time.monotonic()
        for links in large_trees():
            board = Board(Tree(200, links))
            for many in (1, 40, 200):
                region = random_region(rng, 200, links, many)
                for cell in self.both(board, region):
                    self.assertIn(cell, board.tips())
        self.assertLess(time.monotonic() - start, SECONDS)


class Separate(Case):
    """Point 2."""

    def test_arguments_stay_as_they_are(self):
        tree = Tree(9, LINKS)
        board = Board(tree)
        board.pluck(8)
        region = [4, 3, 1]
        first = (outer_sizes(tree, region), region_fate(tree, region, "KRKRKRKR"))
        region_keeper_pluck(board, region)
        region_raider_pluck(board, region)
        self.assertEqual(region, [4, 3, 1])
        self.assertEqual((board.live(), board.plucked()), ([0, 1, 2, 3, 4, 5, 6, 7], [8]))
        self.assertEqual((outer_sizes(tree, region), region_fate(tree, region, "KRKRKRKR")), first)
        self.assertEqual(tree.links(), sorted((min(link), max(link)) for link in LINKS))

    def test_returned_lists_are_new(self):
        tree = Tree(9, LINKS)
        for function, rest in ((outer_sizes, [3, 4]), (strongholds, 3), (strongholds, 6)):
            before = function(tree, rest)
            answer = function(tree, rest)
            spoil(answer if isinstance(answer, list) else answer[1])
            self.assertEqual(function(tree, rest), before)

    def test_errors_change_nothing(self):
        board = Board(PATH)
        region = [0, 2]
        for function, place in ((outer_sizes, PATH), (region_keeper_pluck, board), (region_raider_pluck, board)):
            self.assertEqual(self.pieces_of(function, place, region), 2)
        self.assertEqual((region, board.live(), board.plucked()), ([0, 2], [0, 1, 2, 3, 4], []))


if __name__ == "__main__":
    unittest.main()
