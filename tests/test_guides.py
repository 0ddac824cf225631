"""Guides: points 51 and 52, with points 2, 3, 8, 9 and 22."""

import random
import time
import unittest

from barebough.boards import Board
from barebough.errors import LastCell, NotLive
from barebough.guides import keeper_pluck, raider_pluck
from barebough.trees import Tree
from tests.helpers import cell_kept, orders, plain_keeps, random_links

SECONDS = 5


def board_after(size, links, *cells):
    board = Board(Tree(size, links))
    for cell in cells:
        board.pluck(cell)
    return board


def pieces_of(links, live, cell):
    """Return the live pieces around a live cell, each with its neighbour of the cell."""
    found = []
    for start in sorted(other for link in links if cell in link for other in link if other != cell and other in live):
        piece = {start}
        while True:
            more = {one for link in links for one in link
                    if one in live and one != cell and one not in piece and set(link) & piece}
            if not more:
                break
            piece |= more
        found.append((start, piece))
    return found


def told(links, live, cell, letter):
    """Return what a guide has to answer, by the words of point 51."""
    pieces = pieces_of(links, live, cell)
    tips = [one for one in sorted(live) if sum(one in link and set(link) <= live for link in links) <= 1]
    if letter == "R" and cell in tips:
        return cell
    sizes = [len(piece) for _, piece in pieces]
    wanted = max(sizes) if letter == "K" else min(sizes)
    _, chosen = min((start, sorted(piece)) for start, piece in pieces if len(piece) == wanted)
    return min(tip for tip in tips if tip in chosen)


class Choosing(unittest.TestCase):
    """Point 51."""

    def both(self, board, cell):
        return keeper_pluck(board, cell), raider_pluck(board, cell)

    def test_largest_and_smallest_branch(self):
        # 3 has the branches 0-1-2 and 4 and 5-6.
        board = board_after(7, [(3, 1), (1, 0), (1, 2), (3, 4), (3, 5), (5, 6)])
        self.assertEqual(self.both(board, 3), (0, 4))
        # The lowest live tip of the whole board stands in no chosen branch.
        self.assertEqual(self.both(board, 5), (0, 6))

    def test_of_equal_branches_the_lowest_neighbour_decides(self):
        # Around 9: the branch 1-8 with the neighbour 8, and 5-4 and 6-0 with 4 and 6.
        links = [(9, 8), (8, 1), (9, 4), (4, 5), (9, 6), (6, 0)]
        names = {9: 6, 8: 5, 1: 1, 4: 2, 5: 3, 6: 4, 0: 0}
        board = board_after(7, [(names[one], names[other]) for one, other in links])
        # The branch 0-4 has the lowest cell, and 2-3 the lowest neighbour.
        self.assertEqual(board.branches(6), [[2, 3], [0, 4], [1, 5]])
        self.assertEqual(self.both(board, 6), (3, 3))

    def test_several_largest_and_several_smallest_branches(self):
        # Around 4: 2-0-9 and 3-1-8 are largest, 6 and 5 are smallest, 7-10 is neither.
        links = [(4, 2), (2, 0), (0, 9), (4, 3), (3, 1), (1, 8), (4, 6), (4, 5), (4, 7), (7, 10)]
        board = board_after(11, links)
        self.assertEqual(self.both(board, 4), (9, 5))
        board.pluck(9)
        self.assertEqual(self.both(board, 4), (8, 5))
        board.pluck(5)
        self.assertEqual(self.both(board, 4), (8, 6))
        board.restore()
        board.restore()
        self.assertEqual(self.both(board, 4), (9, 5))

    def test_lowest_live_tip_of_the_branch(self):
        board = board_after(8, [(2, 6), (6, 7), (6, 5), (6, 4), (2, 3), (3, 1), (1, 0)])
        self.assertEqual(keeper_pluck(board, 2), 4)
        board.pluck(4)
        self.assertEqual(keeper_pluck(board, 2), 0)
        self.assertEqual(raider_pluck(board, 2), 0)
        board.pluck(5)
        board.pluck(7)
        self.assertEqual((keeper_pluck(board, 2), raider_pluck(board, 2)), (0, 6))

    def test_named_cell_that_is_a_tip(self):
        links = [(0, 1), (1, 2), (2, 3)]
        self.assertEqual(self.both(board_after(4, links), 0), (3, 0))
        self.assertEqual(self.both(board_after(4, links), 3), (0, 3))
        self.assertEqual(self.both(board_after(4, links, 0, 3), 2), (1, 2))
        # A named cell is a tip once one branch is left.
        self.assertEqual(self.both(board_after(4, links), 1), (3, 0))
        self.assertEqual(self.both(board_after(4, links, 0), 1), (3, 1))
        self.assertEqual(self.both(board_after(2, [(0, 1)]), 1), (0, 1))

    def test_not_live(self):
        board = board_after(4, [(0, 1), (1, 2), (2, 3)], 3, 0)
        for guide in (keeper_pluck, raider_pluck):
            for cell in (0, 3):
                with self.assertRaises(NotLive) as caught:
                    guide(board, cell)
                self.assertEqual(caught.exception.cell, cell)
        board.restore()
        self.assertEqual(self.both(board, 0), (2, 0))

    def test_only_live_cell(self):
        for board, cell in ((board_after(1, []), 0), (board_after(3, [(0, 1), (1, 2)], 0, 1), 2)):
            for guide in (keeper_pluck, raider_pluck):
                with self.assertRaises(LastCell) as caught:
                    guide(board, cell)
                self.assertEqual(caught.exception.cell, cell)
        # A cell that is not live comes before the only live cell.
        with self.assertRaises(NotLive):
            keeper_pluck(board_after(2, [(0, 1)], 0), 0)

    def test_drawn_boards_by_the_words_of_the_point(self):
        rng = random.Random(51)
        for _ in range(150):
            size = rng.randint(2, 12)
            links = random_links(rng, size)
            board = Board(Tree(size, links))
            for _ in range(rng.randint(0, 3 * size)):
                if board.plucked() and rng.random() < 0.4:
                    board.restore()
                elif len(board.live()) > 2:
                    board.pluck(rng.choice(board.tips()))
            for cell in board.live():
                live = set(board.live())
                self.assertEqual(keeper_pluck(board, cell), told(links, live, cell, "K"))
                self.assertEqual(raider_pluck(board, cell), told(links, live, cell, "R"))

    def test_the_board_stays_as_it_is(self):
        board = board_after(6, [(0, 1), (1, 2), (1, 3), (3, 4), (3, 5)], 4, 0)
        before = (board.live(), board.tips(), board.plucked())
        answers = [(keeper_pluck(board, cell), raider_pluck(board, cell)) for cell in board.live()]
        self.assertEqual([(keeper_pluck(board, cell), raider_pluck(board, cell)) for cell in board.live()], answers)
        self.assertEqual((board.live(), board.tips(), board.plucked()), before)


class Winning(unittest.TestCase):
    """Point 52."""

    def lives(self, board, cell, order, guided):
        """Return the results, cell live or not, of all plays in which one side plucks as its guide says."""
        if not board.is_live(cell):
            return {False}
        if not order:
            return {True}
        tips = board.tips()
        if order[0] == guided:
            tips = [keeper_pluck(board, cell) if guided == "K" else raider_pluck(board, cell)]
        results = set()
        for tip in tips:
            board.pluck(tip)
            results |= self.lives(board, cell, order[1:], guided)
            board.restore()
        return results

    def test_all_plays_on_small_trees_under_all_orders(self):
        rng = random.Random(52)
        for size in (1, 2, 3, 3, 4, 4, 4, 5, 5, 5, 5, 6):
            links = random_links(rng, size)
            board = Board(Tree(size, links))
            for turns in range(size):
                for order in orders(turns):
                    for cell in range(size):
                        kept = cell_kept(tuple(links), frozenset(range(size)), cell, order)
                        self.assertEqual(self.lives(board, cell, order, "K" if kept else "R"), {kept})

    def test_drawn_plays_on_greater_trees(self):
        rng = random.Random(520)
        for _ in range(60):
            size = rng.randint(7, 30)
            tree = Tree(size, random_links(rng, size))
            order = "".join(rng.choice("KKR") for _ in range(rng.randint(size // 2, size - 1)))
            cell = rng.randrange(size)
            kept = plain_keeps(tree.sizes(cell), order)
            self.assertIs(self.drawn_play(rng, tree, cell, order, "K" if kept else "R"), kept)

    def drawn_play(self, rng, tree, cell, order, guided):
        board = Board(tree)
        guide = keeper_pluck if guided == "K" else raider_pluck
        for letter in order:
            if not board.is_live(cell):
                return False
            board.pluck(guide(board, cell) if letter == guided else rng.choice(board.tips()))
        return board.is_live(cell)

    def test_two_hundred_cells_within_seconds(self):
        start = time.monotonic()
        rng = random.Random(200)
        path, star = [(k, k + 1) for k in range(199)], [(0, k) for k in range(1, 200)]
        for links in (random_links(rng, 200), path, star):
            tree = Tree(200, links)
            cell = min(range(200), key=lambda one: tree.sizes(one)[0])
            for order in ("K" * 150 + "RK" * 24 + "K", "R" * 100 + "K" * 99, "KRR" * 66 + "K"):
                board = Board(tree)
                for letter in order:
                    if board.is_live(cell):
                        board.pluck(keeper_pluck(board, cell) if letter == "K" else raider_pluck(board, cell))
                self.assertIs(board.is_live(cell), plain_keeps(tree.sizes(cell), order))
        self.assertLess(time.monotonic() - start, SECONDS)


if __name__ == "__main__":
    unittest.main()
