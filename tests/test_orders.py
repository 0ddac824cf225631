"""Orders: points 20 to 26."""

import unittest
from itertools import product

from barebough.errors import BadOrder, OutOfRange, WrongLength
from barebough.orders import check_order, hardest, is_fair, kindest, tails_kinder, telling_order
from barebough.trees import Tree
from tests.helpers import cell_kept, game_keeps, kept_lists, orders, plain_keeps, safe, size_lists, top_sum


def patterns(length):
    return ["".join(letters) for letters in product("KR?", repeat=length)]


def fillings(pattern, raids=None):
    """Return the fillings of a pattern that count."""
    gaps = pattern.count("?")
    found = []
    for letters in product("KR", repeat=gaps):
        if raids is None or letters.count("R") == raids:
            parts = list(letters)
            found.append("".join(parts.pop(0) if letter == "?" else letter for letter in pattern))
    return found


class Checking(unittest.TestCase):
    """Point 20."""

    def bad_index(self, text):
        with self.assertRaises(BadOrder) as caught:
            check_order(text)
        return caught.exception.index

    def test_good_orders(self):
        self.assertEqual([check_order(order) for order in ("", "K", "R", "KRRK", "K" * 199)], [0, 1, 1, 4, 199])

    def test_first_bad_character(self):
        for text, index in (("k", 0), ("KRr", 2), ("K R", 1), ("KR?K?", 2), ("xKy", 0), ("KRKR ", 4), ("KR\n", 2),
                            ("(KR)", 0), ("2K", 0)):
            self.assertEqual(self.bad_index(text), index, text)


class Meaning(unittest.TestCase):
    """Points 21 and 22: what the oracles of these tests stand on."""

    def test_the_fate_of_a_cell_is_that_of_its_size_list(self):
        shapes = [[(0, 1), (1, 2), (2, 3), (3, 4)], [(0, 1), (1, 2), (1, 3), (3, 4)], [(0, 1), (0, 2), (0, 3), (0, 4)]]
        for links in shapes:
            tree = Tree(5, links)
            for turns in range(5):
                for order in orders(turns):
                    for cell in range(5):
                        self.assertEqual(cell_kept(tuple(links), frozenset(range(5)), cell, order),
                                         game_keeps(tree.sizes(cell), order))

    def test_plain_play_decides(self):
        for total in range(8):
            for sizes in size_lists(total):
                for turns in range(total + 1):
                    for order in orders(turns):
                        self.assertEqual(plain_keeps(sizes, order), game_keeps(sizes, order))

    def test_safer_lists_are_kept_too(self):
        for order in orders(6):
            kept = kept_lists(order)
            for sizes in size_lists(6):
                if any(safe(sizes, other) for other in kept):
                    self.assertIn(sizes, kept)


class Telling(unittest.TestCase):
    """Point 23."""

    def test_letters(self):
        self.assertEqual(telling_order(10, 2, 6), "RRRRKKKRRK")
        self.assertEqual(telling_order(4, 2, 4), "KRRK")
        self.assertEqual(telling_order(2, 1, 2), "RK")
        self.assertEqual(telling_order(5, 1, 2), "RRRRK")

    def test_lists_that_are_kept(self):
        for total in range(2, 8):
            for limit in range(2, total + 1):
                for count in range(1, limit):
                    order = telling_order(total, count, limit)
                    self.assertEqual(len(order), total)
                    for sizes in size_lists(total):
                        self.assertEqual(game_keeps(sizes, order), top_sum(sizes, count) < limit)

    def test_range_of_the_limit(self):
        for total, count, limit in ((5, 2, 2), (5, 2, 1), (5, 2, 6), (5, 5, 5), (0, 1, 1), (1, 1, 1), (5, 7, 6),
                                    (5, 1, 0), (5, 1, -3), (0, 1, 0)):
            with self.assertRaises(OutOfRange) as caught:
                telling_order(total, count, limit)
            self.assertEqual(caught.exception.value, limit)
        self.assertEqual((telling_order(5, 2, 3), telling_order(5, 2, 5)), ("RRRRK", "KKRRK"))

    def test_long_order(self):
        self.assertEqual(telling_order(199, 1, 199), "K" * 197 + "RK")


class Fairness(unittest.TestCase):
    """Point 24."""

    def test_examples(self):
        for order in ("", "R", "RRR", "K", "RK", "KRK", "KK", "RRKRKK", "RRK", "RKRK"):
            self.assertIs(is_fair(order), True, order)
        for order in ("KR", "KRRK", "RKR", "KKRRK", "RKRRK", "KRKKR"):
            self.assertIs(is_fair(order), False, order)

    def test_fair_orders_by_their_tails(self):
        for turns in range(10):
            for order in orders(turns):
                tails = [order[index:] for index in range(turns) if order[index] == "K"]
                self.assertIs(is_fair(order), all(tail.count("K") > tail.count("R") for tail in tails))

    def test_lists_that_fair_orders_keep(self):
        for total in range(8):
            for order in orders(total):
                if is_fair(order):
                    for sizes in size_lists(total):
                        self.assertEqual(plain_keeps(sizes, order), max(sizes, default=0) <= order.count("K"))


class Tails(unittest.TestCase):
    """Point 25."""

    def test_examples(self):
        self.assertIs(tails_kinder("RK", "KR"), True)
        self.assertIs(tails_kinder("KR", "RK"), False)
        self.assertIs(tails_kinder("", ""), True)
        self.assertIs(tails_kinder("KRK", "KRK"), True)
        self.assertIs(tails_kinder("KKR", "RRK"), False)

    def test_all_pairs_of_short_orders(self):
        for turns in range(6):
            for first in orders(turns):
                for second in orders(turns):
                    right = all(first[k:].count("K") >= second[k:].count("K") for k in range(turns))
                    self.assertIs(tails_kinder(first, second), right)
                    if right:
                        kept = kept_lists(first)
                        self.assertTrue(all(sizes in kept for sizes in kept_lists(second)))

    def test_wrong_length(self):
        for first, second in (("KR", "K"), ("", "K"), ("KKK", "")):
            with self.assertRaises(WrongLength) as caught:
                tails_kinder(first, second)
            self.assertEqual((caught.exception.given, caught.exception.needed), (len(second), len(first)))


class Patterns(unittest.TestCase):
    """Point 26."""

    def test_fillings_without_raids(self):
        self.assertEqual((hardest("?K?R"), kindest("?K?R")), ("RKRR", "KKKR"))
        self.assertEqual((hardest(""), kindest(""), hardest("KR"), kindest("KR")), ("", "", "KR", "KR"))
        self.assertEqual((hardest("??", raids=None), kindest("??", raids=None)), ("RR", "KK"))

    def test_fillings_with_raids(self):
        self.assertEqual((hardest("?K??R?", raids=1), kindest("?K??R?", raids=1)), ("KKKKRR", "RKKKRK"))
        self.assertEqual((hardest("?K??R?", raids=3), kindest("?K??R?", raids=3)), ("KKRRRR", "RKRRRK"))

    def test_no_raids_are_not_none(self):
        self.assertEqual((hardest("?R?", raids=0), kindest("?R?", raids=0)), ("KRK", "KRK"))
        self.assertEqual((hardest("KR", raids=0), kindest("", raids=0)), ("KR", ""))

    def test_all_gaps_raided(self):
        self.assertEqual((hardest("?R?", raids=2), kindest("?R?", raids=2)), ("RRR", "RRR"))

    def test_raids_out_of_range(self):
        for function in (hardest, kindest):
            for pattern, raids in (("?K?", -1), ("?K?", 3), ("", 1), ("KRRR", 1), ("", -1)):
                with self.assertRaises(OutOfRange) as caught:
                    function(pattern, raids=raids)
                self.assertEqual(caught.exception.value, raids)

    def test_raids_are_passed_by_name(self):
        for function in (hardest, kindest):
            with self.assertRaises(TypeError):
                function("??", 1)

    def test_lists_that_the_fillings_keep(self):
        for length in range(6):
            for pattern in patterns(length):
                for raids in [None] + list(range(pattern.count("?") + 1)):
                    kept = [kept_lists(order) for order in fillings(pattern, raids)]
                    for sizes in size_lists(length):
                        self.assertEqual(sizes in kept_lists(hardest(pattern, raids=raids)),
                                         all(sizes in lists for lists in kept))
                        self.assertEqual(sizes in kept_lists(kindest(pattern, raids=raids)),
                                         any(sizes in lists for lists in kept))


if __name__ == "__main__":
    unittest.main()
