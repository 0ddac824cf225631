"""Boards: points 8 and 9, with point 2."""

import unittest

from barebough.boards import Board
from barebough.errors import LastCell, NotLive, NothingToUndo, NotTip
from barebough.trees import Tree
from tests.helpers import spoil

LINKS = [(0, 1), (1, 2), (1, 3), (3, 4), (3, 5)]


class Boards(unittest.TestCase):
    def setUp(self):
        self.tree = Tree(6, LINKS)
        self.board = Board(self.tree)

    def state(self):
        board = self.board
        return board.live(), board.tips(), board.plucked(), [board.is_live(cell) for cell in range(6)]

    def refused(self, error, call, *cells):
        before = self.state()
        with self.assertRaises(error) as caught:
            call(*cells)
        self.assertEqual(self.state(), before)
        return caught.exception

    def test_at_first_every_cell_is_live(self):
        self.assertIs(self.board.tree, self.tree)
        self.assertEqual(self.state(), ([0, 1, 2, 3, 4, 5], [0, 2, 4, 5], [], [True] * 6))
        self.assertEqual(self.board.branches(1), [[0], [2], [3, 4, 5]])
        self.assertEqual(self.board.sizes(1), [3, 1, 1])

    def test_plucks_make_new_tips(self):
        self.assertIsNone(self.board.pluck(5))
        self.assertEqual(self.board.tips(), [0, 2, 4])
        self.board.pluck(4)
        self.assertEqual(self.state(), ([0, 1, 2, 3], [0, 2, 3], [5, 4], [True] * 4 + [False] * 2))
        self.board.pluck(3)
        self.assertEqual(self.board.plucked(), [5, 4, 3])
        self.assertEqual(self.board.tips(), [0, 2])

    def test_branches_consist_of_live_cells(self):
        self.board.pluck(0)
        self.board.pluck(5)
        self.assertEqual(self.board.branches(1), [[2], [3, 4]])
        self.assertEqual(self.board.branches(3), [[1, 2], [4]])
        self.assertEqual((self.board.sizes(1), self.board.sizes(4)), ([2, 1], [3]))

    def test_sizes_descend_and_branches_go_by_their_neighbours(self):
        board = Board(Tree(5, [(3, 1), (3, 2), (2, 0), (1, 4)]))
        board.pluck(4)
        self.assertEqual(board.branches(3), [[1], [0, 2]])
        self.assertEqual(board.sizes(3), [2, 1])

    def test_only_live_cell(self):
        for cell in (0, 2, 1, 4, 3):
            self.board.pluck(cell)
        self.assertEqual((self.board.live(), self.board.tips()), ([5], [5]))
        self.assertEqual((self.board.branches(5), self.board.sizes(5)), ([], []))
        self.assertEqual(self.refused(LastCell, self.board.pluck, 5).cell, 5)
        # A cell that is not live comes before the only live cell.
        self.assertEqual(self.refused(NotLive, self.board.pluck, 3).cell, 3)

    def test_tree_of_one_cell(self):
        board = Board(Tree(1, []))
        self.assertEqual((board.live(), board.tips(), board.branches(0), board.sizes(0)), ([0], [0], [], []))
        with self.assertRaises(LastCell):
            board.pluck(0)

    def test_pluck_refuses_what_is_no_live_tip(self):
        self.assertEqual(self.refused(NotTip, self.board.pluck, 3).cell, 3)
        self.board.pluck(4)
        self.assertEqual(self.refused(NotTip, self.board.pluck, 3).cell, 3)
        self.assertEqual(self.refused(NotLive, self.board.pluck, 4).cell, 4)
        self.board.pluck(5)
        self.board.pluck(3)
        self.assertEqual(self.refused(NotLive, self.board.pluck, 3).cell, 3)

    def test_cells_that_are_not_live_have_no_branches(self):
        self.board.pluck(4)
        self.assertEqual(self.refused(NotLive, self.board.branches, 4).cell, 4)
        self.assertEqual(self.refused(NotLive, self.board.sizes, 4).cell, 4)

    def test_restore_goes_back_to_the_start(self):
        start = self.state()
        for cell in (4, 0, 5, 3):
            self.board.pluck(cell)
        self.assertEqual([self.board.restore(), self.board.restore()], [3, 5])
        self.assertEqual((self.board.live(), self.board.plucked()), ([1, 2, 3, 5], [4, 0]))
        self.board.pluck(2)
        self.assertEqual([self.board.restore() for _ in range(3)], [2, 0, 4])
        self.assertEqual(self.state(), start)
        self.refused(NothingToUndo, self.board.restore)

    def test_two_boards_on_one_tree(self):
        other = Board(self.tree)
        self.board.pluck(0)
        other.pluck(5)
        self.assertEqual((self.board.live(), other.live()), ([1, 2, 3, 4, 5], [0, 1, 2, 3, 4]))
        self.assertEqual(self.tree.links(), LINKS)

    def test_returned_lists_are_new(self):
        self.board.pluck(5)
        board = self.board
        calls = [board.live, board.tips, lambda: board.branches(1), lambda: board.sizes(1), board.plucked]
        for call in calls:
            before = repr(call())
            spoil(call())
            self.assertEqual(repr(call()), before)


if __name__ == "__main__":
    unittest.main()
