"""Kept lists: point 63, with points 2, 3, 14, 21 and 22."""

import random
import time
import unittest

from barebough.listings import KeptLists
from tests.helpers import game_keeps, kept_lists, orders, plain_keeps, safe, size_lists, spoil

SECONDS = 5


class Listing(unittest.TestCase):
    def test_example(self):
        kept = KeptLists("KRK")
        self.assertEqual([list(kept), [2, 1] in kept, [3] in kept, kept.heaviest()],
                         [[(2, 1), (1, 1, 1)], True, False, [[2, 1]]])

    def test_sums_up_to_eight_against_the_whole_game(self):
        for total in range(9):
            lists = size_lists(total)
            for order in orders(total):
                kept = KeptLists(order)
                told = [sizes for sizes in lists if game_keeps(sizes, order)]
                self.assertEqual(list(kept), [tuple(sizes) for sizes in told], order)
                self.assertEqual(kept.total(), len(told))
                self.assertEqual([sizes for sizes in lists if sizes in kept], told)

    def test_empty_order(self):
        kept = KeptLists("")
        self.assertEqual((list(kept), kept.total(), kept.heaviest()), ([()], 1, [[]]))
        self.assertIs([] in kept, True)
        self.assertIs([1] in kept, False)

    def test_orders_that_keep_no_list(self):
        for order in ("R", "KR", "KKR", "RRRR", "K" * 13 + "R"):
            kept = KeptLists(order)
            self.assertEqual((list(kept), kept.total(), kept.heaviest()), ([], 0, []))
            self.assertIs([1] * len(order) in kept, False)
            self.assertIs([] in kept, False)

    def test_membership_answers_true_and_false(self):
        kept = KeptLists("KRRK")
        self.assertIs([2, 1, 1] in kept, True)
        self.assertIs([2, 2] in kept, False)
        self.assertIs([4] in kept, False)
        # Other sums, the empty list among them.
        for sizes in ([], [1], [1, 1, 1], [2, 1], [1] * 5, [2, 1, 1, 1], [9], [1] * 199):
            self.assertIs(sizes in kept, False)
        self.assertIs([2, 1, 1] not in kept, False)

    def test_order_of_the_lists(self):
        lists = list(KeptLists("K" * 14))
        self.assertEqual(len(lists), 135)
        self.assertEqual((lists[0], lists[1], lists[-1]), ((14,), (13, 1), (1,) * 14))
        self.assertTrue(all(first > second for first, second in zip(lists, lists[1:])))
        self.assertTrue(all(isinstance(sizes, tuple) and sum(sizes) == 14 for sizes in lists))

    def test_iterating_again(self):
        kept = KeptLists("RKKRK")
        told = [tuple(sizes) for sizes in kept_lists("RKKRK")]
        self.assertEqual((list(kept), list(kept)), (told, told))
        for first in kept:
            break
        self.assertEqual(first, told[0])
        self.assertEqual([sizes for sizes in kept], told)
        # Two loops at a time do not get in each other's way.
        self.assertEqual([(one, other) for one in kept for other in kept],
                         [(one, other) for one in told for other in told])

    def test_orders_of_fourteen_turns(self):
        rng = random.Random(63)
        start = time.monotonic()
        drawn = ["".join(rng.choice("KR") for _ in range(13)) + "K" for _ in range(40)]
        for order in drawn + ["K" * 14, "R" * 13 + "K", "KR" * 7, "RK" * 7, "R" * 7 + "K" * 7]:
            kept = KeptLists(order)
            told = [sizes for sizes in size_lists(14) if plain_keeps(sizes, order)]
            self.assertEqual(list(kept), [tuple(sizes) for sizes in told])
            self.assertEqual(kept.total(), len(told))
            self.check_heaviest(kept, told)
        self.assertLess(time.monotonic() - start, SECONDS)

    def check_heaviest(self, kept, told):
        heaviest = kept.heaviest()
        self.assertEqual(heaviest, [sizes for sizes in told
                                    if not any(safe(sizes, other) and sizes != other for other in told)])
        total = sum(told[0]) if told else 0
        for sizes in size_lists(total) if told else []:
            self.assertIs(sizes in kept, any(safe(sizes, heavy) for heavy in heaviest))

    def test_heaviest_of_all_orders(self):
        several = 0
        for total in range(10):
            for order in orders(total):
                kept = KeptLists(order)
                self.check_heaviest(kept, kept_lists(order))
                several += len(kept.heaviest()) > 1
        self.assertTrue(several)

    def test_asked_in_any_order(self):
        order = "RKKRRK"
        told = [tuple(sizes) for sizes in kept_lists(order)]
        first = KeptLists(order)
        heaviest = first.heaviest()
        self.assertEqual((first.heaviest(), first.total(), list(first)), (heaviest, len(told), told))
        second = KeptLists(order)
        self.assertEqual((second.total(), second.total()), (len(told), len(told)))
        self.assertEqual((list(second), second.heaviest()), (told, heaviest))
        third = KeptLists(order)
        self.assertEqual((list(third), third.total(), third.heaviest()), (told, len(told), heaviest))


class Separate(unittest.TestCase):
    """Point 2."""

    def test_returned_lists_are_new(self):
        kept = KeptLists("KRKKRRK")
        before = (list(kept), kept.heaviest())
        spoil(kept.heaviest())
        spoil(list(kept))
        self.assertEqual((list(kept), kept.heaviest()), before)
        self.assertEqual(kept.total(), len(before[0]))
        empty = KeptLists("")
        spoil(empty.heaviest())
        self.assertEqual((empty.heaviest(), list(empty), [] in empty), ([[]], [()], True))

    def test_the_passed_list_stays(self):
        kept = KeptLists("KRK")
        sizes = [2, 1]
        self.assertTrue(sizes in kept)
        self.assertEqual(sizes, [2, 1])
        sizes[0] = 9
        self.assertFalse(sizes in kept)
        self.assertTrue([2, 1] in kept)

    def test_equal_calls(self):
        one, other = KeptLists("RKRK"), KeptLists("RKRK")
        spoil(one.heaviest())
        self.assertEqual((list(one), one.heaviest(), one.total()), (list(other), other.heaviest(), other.total()))


if __name__ == "__main__":
    unittest.main()
