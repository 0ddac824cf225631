"""The text of a tree: points 10 and 11."""

import unittest

from barebough.errors import BadText, BadTree
from barebough.notation import format_tree, parse_tree
from barebough.trees import Tree


class Formatting(unittest.TestCase):
    def test_links_ascend(self):
        tree = Tree(11, [(10, 9), (2, 0), (10, 0), (1, 0), (3, 2), (4, 2), (5, 2), (6, 2), (7, 2), (8, 2)])
        self.assertEqual(format_tree(tree), "11 0-1 0-2 0-10 2-3 2-4 2-5 2-6 2-7 2-8 9-10")

    def test_size_one(self):
        self.assertEqual(format_tree(Tree(1, [])), "1")

    def test_example(self):
        self.assertEqual(format_tree(parse_tree("4 3-1 1-0 2-1")), "4 0-1 1-2 1-3")

    def test_two_hundred_cells(self):
        text = " ".join(["200"] + [f"{cell}-{cell + 1}" for cell in range(199)])
        self.assertEqual(format_tree(parse_tree(text)), text)


class Parsing(unittest.TestCase):
    def bad_position(self, text):
        with self.assertRaises(BadText) as caught:
            parse_tree(text)
        return caught.exception.position

    def bad_index(self, text):
        with self.assertRaises(BadTree) as caught:
            parse_tree(text)
        return caught.exception.index

    def test_links_in_any_order_and_direction(self):
        tree = parse_tree("4 3-1 1-0 2-1")
        self.assertEqual((tree.size, tree.links()), (4, [(0, 1), (1, 2), (1, 3)]))
        self.assertEqual(parse_tree("1").size, 1)
        self.assertEqual(parse_tree("2 1-0").links(), [(0, 1)])

    def test_first_word(self):
        for text in ("0", "201", "01", "007", "1000", "-1", "+1", "a", "1a", "3-4", "3.", "1,", "0 0-1"):
            self.assertEqual(self.bad_position(text), 0, text)
        self.assertEqual(self.bad_position("9" * 5000), 0)
        self.assertEqual(self.bad_index("200"), 0)

    def test_other_words(self):
        bad = ("1", "1-", "-1", "-", "1--2", "1-2-3", "a-1", "1-a", "1-2a", "+1-2", "1-+2", "1:2", "1000-1", "1-1000",
               "0-" + "1" * 5000)
        for word in bad:
            self.assertEqual(self.bad_position("3 0-1 " + word), 6, word)
            self.assertEqual(self.bad_position("3 " + word + " 0-1"), 2, word)

    def test_leading_zeros(self):
        self.assertEqual(self.bad_position("3 00-1 1-2"), 2)
        self.assertEqual(self.bad_position("3 0-1 1-02"), 6)
        self.assertEqual(self.bad_position("3 0-1 01-2"), 6)
        self.assertEqual(parse_tree("2 0-1").size, 2)

    def test_digits_are_plain_ones(self):
        self.assertEqual(self.bad_position("2 0-\u0661"), 2)
        self.assertEqual(self.bad_position("\u00b2 0-1"), 0)

    def test_empty_words(self):
        self.assertEqual(self.bad_position(""), 0)
        self.assertEqual(self.bad_position(" "), 0)
        self.assertEqual(self.bad_position(" 2 0-1"), 0)
        self.assertEqual(self.bad_position("4 0-1  1-2"), 6)
        self.assertEqual(self.bad_position("3 0-1   1-2"), 6)
        self.assertEqual(self.bad_position("2 0-1 "), 6)
        self.assertEqual(self.bad_position("1 "), 2)

    def test_first_bad_word_counts(self):
        self.assertEqual(self.bad_position("12 0-1 10-x  y"), 7)
        self.assertEqual(self.bad_position("0 0-1 x"), 0)

    def test_bad_trees(self):
        self.assertEqual(self.bad_index("3 0-1 1-0 1-2"), 1)
        self.assertEqual(self.bad_index("3 0-1 1-3"), 1)
        self.assertEqual(self.bad_index("3 0-1 999-1"), 1)
        self.assertEqual(self.bad_index("3 0-1 2-2"), 1)
        self.assertEqual(self.bad_index("3 0-1"), 1)
        self.assertEqual(self.bad_index("2"), 0)

    def test_bad_text_comes_before_bad_tree(self):
        self.assertEqual(self.bad_position("3 0-0 0-9 1-2 x"), 14)


if __name__ == "__main__":
    unittest.main()
