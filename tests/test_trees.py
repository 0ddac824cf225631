"""Trees: points 4 to 7, with points 2 and 3."""

import unittest
from itertools import combinations

from barebough.errors import BadTree, LastCell, NotTip
from barebough.trees import Tree
from tests.helpers import size_lists, spoil

# 0-1, 1-2, 1-3, 3-4, 3-5: two cells with three neighbours.
LINKS = [(0, 1), (1, 2), (1, 3), (3, 4), (3, 5)]


def path_tree(size):
    return Tree(size, [(cell, cell + 1) for cell in range(size - 1)])


class Building(unittest.TestCase):
    def bad_index(self, size, links):
        with self.assertRaises(BadTree) as caught:
            Tree(size, links)
        return caught.exception.index

    def test_links_in_any_order_and_direction(self):
        tree = Tree(6, [(5, 3), (3, 1), (2, 1), (0, 1), (4, 3)])
        self.assertEqual(tree.size, 6)
        self.assertEqual(tree.links(), LINKS)

    def test_size_one(self):
        tree = Tree(1, [])
        self.assertEqual((tree.size, tree.links(), tree.tips()), (1, [], [0]))
        self.assertEqual((tree.neighbours(0), tree.branches(0), tree.sizes(0)), ([], [], []))
        self.assertEqual((tree.all_sizes(), tree.path(0, 0)), ([[]], [0]))

    def test_cell_out_of_range_on_either_side(self):
        self.assertEqual(self.bad_index(3, [(0, 1), (1, 3)]), 1)
        self.assertEqual(self.bad_index(3, [(0, 1), (3, 1)]), 1)
        self.assertEqual(self.bad_index(3, [(-1, 0), (1, 2)]), 0)
        self.assertEqual(self.bad_index(3, [(0, -1), (1, 2)]), 0)
        self.assertEqual(self.bad_index(1, [(0, 1)]), 0)

    def test_cell_joined_to_itself(self):
        self.assertEqual(self.bad_index(3, [(0, 1), (2, 2)]), 1)
        self.assertEqual(self.bad_index(1, [(0, 0)]), 0)

    def test_link_once_more_in_either_direction(self):
        self.assertEqual(self.bad_index(3, [(0, 1), (0, 1), (1, 2)]), 1)
        self.assertEqual(self.bad_index(3, [(0, 1), (1, 2), (2, 1)]), 2)

    def test_link_that_closes_a_ring(self):
        self.assertEqual(self.bad_index(4, [(0, 1), (2, 3), (1, 2), (3, 0)]), 3)
        self.assertEqual(self.bad_index(4, [(0, 1), (1, 2), (0, 2), (2, 3)]), 2)

    def test_first_bad_link_counts(self):
        self.assertEqual(self.bad_index(3, [(0, 1), (1, 1), (0, 9)]), 1)
        self.assertEqual(self.bad_index(3, [(0, 1), (0, 9), (1, 1)]), 1)

    def test_too_few_links(self):
        self.assertEqual(self.bad_index(2, []), 0)
        self.assertEqual(self.bad_index(5, [(0, 1), (2, 3)]), 2)
        self.assertEqual(self.bad_index(4, [(0, 1), (1, 2)]), 2)

    def test_every_choice_of_three_links_among_four_cells(self):
        pairs = list(combinations(range(4), 2))
        rings = [(0, 1, 2), (0, 1, 3), (0, 2, 3), (1, 2, 3)]
        closed = [set(combinations(ring, 2)) for ring in rings]
        for links in combinations(pairs, 3):
            if set(links) in closed:
                self.assertEqual(self.bad_index(4, list(links)), 2)
            else:
                self.assertEqual(Tree(4, list(links)).links(), sorted(links))


class Asking(unittest.TestCase):
    def setUp(self):
        self.tree = Tree(6, LINKS)

    def test_neighbours(self):
        self.assertEqual([self.tree.neighbours(cell) for cell in range(6)],
                         [[1], [0, 2, 3], [1], [1, 4, 5], [3], [3]])

    def test_neighbours_ascend_in_any_order_of_links(self):
        self.assertEqual(Tree(4, [(3, 1), (1, 2), (1, 0)]).neighbours(1), [0, 2, 3])

    def test_tips(self):
        self.assertEqual(self.tree.tips(), [0, 2, 4, 5])
        self.assertEqual([path_tree(2).tips(), path_tree(4).tips()], [[0, 1], [0, 3]])

    def test_branches_are_in_the_order_of_their_neighbours(self):
        self.assertEqual(self.tree.branches(1), [[0], [2], [3, 4, 5]])
        self.assertEqual(self.tree.branches(3), [[0, 1, 2], [4], [5]])
        self.assertEqual(self.tree.branches(4), [[0, 1, 2, 3, 5]])
        # The branch of the neighbour 2 contains the lowest cell and stands last.
        self.assertEqual(Tree(5, [(3, 1), (3, 2), (2, 0), (1, 4)]).branches(3), [[1, 4], [0, 2]])

    def test_size_lists_descend(self):
        self.assertEqual(self.tree.sizes(1), [3, 1, 1])
        self.assertEqual(self.tree.sizes(0), [5])
        self.assertEqual(path_tree(5).sizes(1), [3, 1])

    def test_all_size_lists(self):
        self.assertEqual(self.tree.all_sizes(), [[5], [3, 1, 1], [5], [3, 1, 1], [5], [5]])
        self.assertEqual(path_tree(4).all_sizes(), [[3], [2, 1], [2, 1], [3]])

    def test_size_lists_have_the_right_sum(self):
        for sizes in size_lists(7):
            links = []
            cell = 1
            for entry in sizes:
                links += [(0, cell)] + [(k, k + 1) for k in range(cell, cell + entry - 1)]
                cell += entry
            tree = Tree(8, links)
            self.assertEqual(tree.sizes(0), sizes)
            self.assertEqual([sum(one) for one in tree.all_sizes()], [7] * 8)
            self.assertEqual(tree.all_sizes(), [tree.sizes(cell) for cell in range(8)])

    def test_paths(self):
        self.assertEqual(self.tree.path(0, 5), [0, 1, 3, 5])
        self.assertEqual(self.tree.path(5, 0), [5, 3, 1, 0])
        self.assertEqual(self.tree.path(4, 5), [4, 3, 5])
        self.assertEqual(self.tree.path(1, 3), [1, 3])
        self.assertEqual(self.tree.path(3, 3), [3])

    def test_two_hundred_cells(self):
        tree = path_tree(200)
        self.assertEqual(tree.path(0, 199), list(range(200)))
        self.assertEqual(tree.all_sizes()[100], [100, 99])
        self.assertEqual(tree.branches(0), [list(range(1, 200))])
        with self.assertRaises(BadTree) as caught:
            Tree(200, tree.links()[:-1] + [(0, 198)])
        self.assertEqual(caught.exception.index, 198)


class Editing(unittest.TestCase):
    def setUp(self):
        self.tree = Tree(6, LINKS)

    def tearDown(self):
        self.assertEqual((self.tree.size, self.tree.links()), (6, LINKS))

    def test_grafted(self):
        after = self.tree.grafted(2)
        self.assertEqual((after.size, after.links()), (7, [(0, 1), (1, 2), (1, 3), (2, 6), (3, 4), (3, 5)]))
        self.assertEqual(Tree(1, []).grafted(0).links(), [(0, 1)])

    def test_plucked_closes_the_numbers_up(self):
        after = self.tree.plucked(2)
        self.assertEqual((after.size, after.links()), (5, [(0, 1), (1, 2), (2, 3), (2, 4)]))
        self.assertEqual(self.tree.plucked(0).links(), [(0, 1), (0, 2), (2, 3), (2, 4)])
        self.assertEqual(self.tree.plucked(5).links(), LINKS[:-1])
        self.assertEqual((path_tree(2).plucked(0).size, path_tree(2).plucked(1).size), (1, 1))

    def test_moved_keeps_the_numbers(self):
        after = self.tree.moved(2, 5)
        self.assertEqual((after.size, after.links()), (6, [(0, 1), (1, 3), (2, 5), (3, 4), (3, 5)]))
        self.assertEqual(self.tree.moved(2, 1).links(), LINKS)
        self.assertEqual(path_tree(2).moved(0, 1).links(), [(0, 1)])

    def test_only_tips_are_plucked_and_moved(self):
        for edit in (lambda: self.tree.plucked(3), lambda: self.tree.moved(3, 0)):
            with self.assertRaises(NotTip) as caught:
                edit()
            self.assertEqual(caught.exception.cell, 3)
        with self.assertRaises(NotTip):
            path_tree(3).plucked(1)

    def test_last_cell_stays(self):
        with self.assertRaises(LastCell) as caught:
            Tree(1, []).plucked(0)
        self.assertEqual(caught.exception.cell, 0)

    def test_edits_do_not_share_anything(self):
        after = self.tree.grafted(0).moved(6, 5).plucked(6)
        self.assertEqual(after.links(), LINKS)
        self.assertIsNot(after, self.tree)


class Keeping(unittest.TestCase):
    """Point 2: nothing that is passed is kept, nothing that is returned is held on to."""

    def test_links_are_neither_modified_nor_kept(self):
        links = [(5, 3), (3, 1), (2, 1), (0, 1), (4, 3)]
        tree = Tree(6, links)
        self.assertEqual(links, [(5, 3), (3, 1), (2, 1), (0, 1), (4, 3)])
        links.clear()
        self.assertEqual(tree.links(), LINKS)

    def test_returned_lists_are_new(self):
        tree = Tree(6, LINKS)
        calls = [tree.links, lambda: tree.neighbours(1), tree.tips, lambda: tree.branches(1),
                 lambda: tree.sizes(1), tree.all_sizes, lambda: tree.path(0, 5)]
        for call in calls:
            before = repr(call())
            spoil(call())
            self.assertEqual(repr(call()), before)


if __name__ == "__main__":
    unittest.main()
