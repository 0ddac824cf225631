"""Rows: points 27 to 32, with points 2 and 3."""

import time
import unittest
from itertools import product

from barebough import rows as module
from barebough.errors import WrongLength
from barebough.rows import (
    alike, first_break, fits, free_row, keeper_step, kinder, pull, raider_step, tail_rows, tight)
from tests.helpers import game_keeps, kept_lists, meets, orders, plain_keeps, size_lists, spoil, top_sum

SECONDS = 5


class Fitting(unittest.TestCase):
    """Point 27."""

    def test_free_row(self):
        self.assertEqual([free_row(0), free_row(1), free_row(4)], [[], [1], [4, 4, 4, 4]])

    def test_examples(self):
        self.assertIs(fits([2, 2], [2, 3, 4, 4]), False)
        self.assertIs(fits([2, 1, 1], [2, 3, 4, 4]), True)
        self.assertIs(fits([], []), True)
        self.assertIsNone(first_break([], []))
        self.assertEqual(first_break([2, 2], [2, 3, 4, 4]), 2)
        self.assertEqual(first_break([3, 2, 1], [3, 4, 5, 6, 6, 6]), 2)
        self.assertEqual(first_break([3], [2, 9, 9]), 1)
        # Bounds behind the last entry count, too.
        self.assertEqual(first_break([3], [3, 3, 2]), 3)
        self.assertIsNone(first_break([3], [99, 3, 1000000]))

    def test_all_small_rows(self):
        for total in range(4):
            for row in product(range(-1, total + 2), repeat=total):
                for sizes in size_lists(total):
                    broken = [k for k in range(1, total + 1) if top_sum(sizes, k) > row[k - 1]]
                    self.assertEqual(first_break(sizes, list(row)), min(broken, default=None))
                    self.assertIs(fits(sizes, list(row)), not broken)

    def test_wrong_length(self):
        for function in (fits, first_break):
            for sizes, row in (([2, 1], [3, 3]), ([2, 1], [3, 3, 3, 3]), ([], [0]), ([1], []), ([9], [1])):
                with self.assertRaises(WrongLength) as caught:
                    function(sizes, row)
                self.assertEqual((caught.exception.given, caught.exception.needed), (len(row), sum(sizes)))


class Steps(unittest.TestCase):
    """Point 29."""

    def test_empty_row(self):
        self.assertEqual((keeper_step([]), raider_step([])), ([1], [0]))

    def test_keeper_step(self):
        self.assertEqual(keeper_step([1]), [2, 2])
        self.assertEqual(keeper_step([0]), [1, 1])
        self.assertEqual(keeper_step([1, 3, 3]), [2, 3, 4, 4])
        self.assertEqual(keeper_step([2, 4, 5, 6, 6, 6]), [3, 5, 6, 7, 7, 7, 7])
        self.assertEqual(keeper_step([1, 2, 3, 4]), [2, 3, 4, 5, 5])

    def test_raider_step(self):
        self.assertEqual(raider_step([1]), [1, 2])
        self.assertEqual(raider_step([0]), [0, 2])
        self.assertEqual(raider_step([1, 2]), [1, 3, 3])
        self.assertEqual(raider_step([3, 2, 1]), [3, 2, 1, 4])
        self.assertEqual(raider_step([2, 3, 4, 4]), [2, 3, 5, 5, 5])

    def test_negative_and_zero_bounds(self):
        self.assertEqual(keeper_step([-3, -5, 0]), [-2, -5, -7, 1])
        self.assertEqual(raider_step([-3, -5, 0]), [-3, -5, 0, 4])
        self.assertEqual(keeper_step([0, 0, 0]), [1, 1, 1, 1])
        self.assertEqual(raider_step([0, 0]), [0, 0, 3])
        # The quotient is rounded down: -1 // 2 is -1.
        self.assertEqual(keeper_step([9, -1, 9]), [4, 0, -1, 4])
        self.assertEqual(keeper_step([-1000000]), [-999999, -1999999])

    def test_free_bounds_count_as_the_sum(self):
        self.assertEqual(keeper_step([9, 2, 9]), keeper_step([3, 2, 3]))
        self.assertEqual(raider_step([9, 2, 9]), raider_step([3, 2, 3]))
        self.assertEqual(keeper_step([1000000, 1000000]), [3, 3, 3])
        self.assertEqual(raider_step([1000000, 1000000]), [2, 3, 3])

    def test_steps_by_the_words_of_the_point(self):
        for total in range(1, 5):
            most = total - 1
            for row in product(range(-2, most + 3), repeat=most):
                b = [None] + [min(bound, most) for bound in row] + [most]
                keeper = [b[1] + 1] + [min(b[k] + 1, b[k - 1] + 1 + b[k - 1] // (k - 1)) for k in range(2, total + 1)]
                raider = [b[k] if b[k] < most else total for k in range(1, total + 1)]
                self.assertEqual(keeper_step(list(row)), keeper)
                self.assertEqual(raider_step(list(row)), [min(raider[0], most)] + raider[1:])


class Pulling(unittest.TestCase):
    """Points 28 and 30."""

    def test_examples(self):
        self.assertEqual(pull("KRRK"), [2, 3, 4, 4])
        self.assertEqual([fits([2, 2], pull("KRRK")), fits([2, 1, 1], pull("KRRK"))], [False, True])
        self.assertEqual(pull("KR", goal=[2, 1, 3]), [3, 2, 2, 5, 5])

    def test_goal_as_list_and_tuple_and_left_out(self):
        self.assertEqual(pull("KR", goal=(2, 1, 3)), [3, 2, 2, 5, 5])
        self.assertEqual(pull("KRRK", goal=[]), pull("KRRK", goal=()))
        self.assertEqual(pull("KRRK"), pull("KRRK", goal=()))
        self.assertEqual(tail_rows("R", goal=(1,)), [[1, 2], [1]])
        self.assertEqual(tail_rows("R", goal=[1]), tail_rows("R", goal=(1,)))
        self.assertEqual(tail_rows("R"), [[0], []])

    def test_goal_is_passed_by_name(self):
        for function in (pull, tail_rows):
            with self.assertRaises(TypeError):
                function("KR", [1])

    def test_no_letters_leave_the_goal_as_it_is(self):
        self.assertEqual([pull("", goal=(9, -2)), pull("", goal=[9, -2]), pull("")], [[9, -2], [9, -2], []])
        self.assertEqual(tail_rows("", goal=[7, 7, 7]), [[7, 7, 7]])
        self.assertEqual(tail_rows("K", goal=[7])[1], [7])
        self.assertIsInstance(pull("", goal=(1, 2)), list)

    def test_tail_rows(self):
        self.assertEqual(tail_rows("KRRK"), [[2, 3, 4, 4], [1, 3, 3], [1, 2], [1], []])
        for order in orders(5):
            for goal in ([], [1], [0, 5], [2, 2, 2]):
                self.assertEqual(tail_rows(order, goal=goal), [pull(order[k:], goal=goal) for k in range(6)])

    def test_orders_one_after_the_other(self):
        for first in orders(3):
            for second in orders(3):
                for goal in ([], [0], [3, 1], [2, 2, 2]):
                    self.assertEqual(pull(first + second, goal=goal), pull(first, goal=pull(second, goal=goal)))

    def test_full_orders_by_the_game(self):
        for total in range(8):
            for order in orders(total):
                row = pull(order)
                self.assertEqual(len(row), total)
                for sizes in size_lists(total):
                    self.assertEqual(fits(sizes, row), game_keeps(sizes, order))

    def test_goals_by_the_game(self):
        for left in range(4):
            for goal in product(range(-1, left + 2), repeat=left):
                for turns in range(5 - left):
                    for order in orders(turns):
                        row = pull(order, goal=goal)
                        for sizes in size_lists(left + turns):
                            self.assertEqual(fits(sizes, row), game_keeps(sizes, order, goal))

    def test_long_orders_by_plain_play(self):
        lists = [[199 - 9 * count] + [3] * (3 * count) for count in range(23)]
        lists += [[size] * (199 // size) + [1] * (199 % size) for size in (1, 2, 40, 66, 90, 199)]
        lists = [sorted(sizes, reverse=True) for sizes in lists]
        for order in ("KKR" * 66 + "K", "KRR" * 66 + "K", "R" * 60 + "K" * 70 + "R" * 68 + "K", "KRRK" * 49 + "KRK"):
            row = pull(order)
            for sizes in lists:
                self.assertEqual(fits(sizes, row), plain_keeps(sizes, order))

    def test_free_goals_by_the_game(self):
        for total in range(7):
            for turns in range(total + 1):
                for order in orders(turns):
                    row = pull(order, goal=free_row(total - turns))
                    for sizes in size_lists(total):
                        self.assertEqual(fits(sizes, row), game_keeps(sizes, order))


class Tightening(unittest.TestCase):
    """Point 31."""

    def test_examples(self):
        self.assertEqual([tight([3, 4, 6, 6, 6, 6]), tight([9, 3, 9]), tight([0, 2])],
                         [[3, 4, 6, 6, 6, 6], [3, 3, 3], None])
        self.assertEqual(tight([]), [])
        self.assertEqual([tight([1]), tight([5]), tight([0]), tight([-1])], [[1], [1], None, None])

    def test_different_lists_reach_the_bounds(self):
        # [3, 1, 1, 1] reaches the first bound, and [2, 2, 2] the third one.
        self.assertEqual(tight([3, 4, 6, 6, 6, 6]), [3, 4, 6, 6, 6, 6])
        self.assertFalse(any(top_sum(sizes, 1) == 3 and top_sum(sizes, 3) == 6 and top_sum(sizes, 2) <= 4
                             for sizes in size_lists(6)))

    def test_all_small_rows(self):
        for total in range(6):
            for row in product(range(0, total + 2), repeat=total):
                lists = [sizes for sizes in size_lists(total) if meets(sizes, row)]
                if lists:
                    bounds = [max(top_sum(sizes, k) for sizes in lists) for k in range(1, total + 1)]
                    self.assertEqual(tight(list(row)), bounds)
                    self.assertEqual([sizes for sizes in size_lists(total) if fits(sizes, bounds)], lists)
                else:
                    self.assertIsNone(tight(list(row)))

    def test_first_number_is_the_number_of_keeper_turns(self):
        for total in range(1, 8):
            for order in orders(total):
                bounds = tight(pull(order))
                self.assertEqual(bounds is None, order[-1] == "R")
                if bounds is not None:
                    self.assertEqual(bounds[0], order.count("K"))

    def test_rows_of_199_bounds(self):
        start = time.monotonic()
        self.assertEqual(tight(list(range(1, 200))), list(range(1, 200)))
        self.assertEqual(tight(free_row(199)), free_row(199))
        self.assertEqual(tight([2] + [1000000] * 198), [min(2 * k, 199) for k in range(1, 200)])
        self.assertIsNone(tight([199] * 198 + [198]))
        self.assertEqual(tight(pull("KR" * 99 + "K"))[0], 100)
        self.assertLess(time.monotonic() - start, SECONDS)


class Comparing(unittest.TestCase):
    """Point 32."""

    def test_examples(self):
        self.assertEqual([kinder("", ""), alike("", "")], [True, True])
        self.assertEqual([kinder("K", "R"), kinder("R", "K"), alike("K", "R")], [True, False, False])
        # No list is kept under an order that ends in R.
        self.assertEqual([kinder("RR", "KR"), alike("KR", "RR")], [True, True])
        self.assertEqual([kinder("RRK", "KRK"), kinder("KRK", "RRK")], [False, True])

    def test_all_pairs_of_short_orders_by_plain_play(self):
        for total in range(7):
            kept = {order: kept_lists(order) for order in orders(total)}
            for first in kept:
                for second in kept:
                    self.assertIs(kinder(first, second), all(sizes in kept[first] for sizes in kept[second]))
                    self.assertIs(alike(first, second), kept[first] == kept[second])

    def test_orders_without_better_tails_may_be_kinder(self):
        found = [(first, second) for first in orders(5) for second in orders(5)
                 if first != second and alike(first, second) and first[-1] == "K"]
        self.assertTrue(found)

    def test_wrong_length(self):
        for function in (kinder, alike):
            for first, second in (("KR", "K"), ("", "K"), ("RRR", "")):
                with self.assertRaises(WrongLength) as caught:
                    function(first, second)
                self.assertEqual((caught.exception.given, caught.exception.needed), (len(second), len(first)))

    def test_orders_of_199_turns(self):
        start = time.monotonic()
        first, second, third = "KR" * 99 + "K", "RK" * 99 + "K", "RR" + "KR" * 98 + "K"
        # The first two are fair and have as many letters K, so they are alike.
        self.assertEqual([kinder(first, second), kinder(second, first), alike(first, second)], [True, True, True])
        self.assertEqual([kinder(first, third), kinder(third, first), alike(first, third)], [True, False, False])
        self.assertLess(time.monotonic() - start, SECONDS)


class Keeping(unittest.TestCase):
    """Point 2: arguments stay as they are, and every list that is returned is new."""

    def test_arguments_and_results(self):
        calls = [("free_row", [3], {}), ("fits", [[2, 1], [2, 9, 3]], {}), ("first_break", [[2, 1], [2, 2, 3]], {}),
                 ("keeper_step", [[1, 9]], {}), ("raider_step", [[1, 9]], {}), ("tight", [[1, 9]], {}),
                 ("tight", [[]], {}), ("pull", ["KR"], {"goal": [1, 9]}), ("pull", [""], {"goal": [1, 9]}),
                 ("pull", [""], {}), ("pull", ["KR"], {}), ("tail_rows", ["KR"], {"goal": [1, 9]}),
                 ("tail_rows", [""], {"goal": [1, 9]}), ("tail_rows", ["KR"], {}), ("tail_rows", [""], {})]
        for name, arguments, named in calls:
            function = getattr(module, name)
            before = repr((arguments, named))
            result = function(*arguments, **named)
            told = repr(result)
            spoil(result)
            self.assertEqual(repr((arguments, named)), before, name)
            self.assertEqual(repr(function(*arguments, **named)), told, name)

    def test_rows_of_one_answer_are_separate(self):
        rows = tail_rows("KKRR", goal=[1])
        rows[4].append(99)
        self.assertEqual([len(row) for row in rows], [5, 4, 3, 2, 2])


if __name__ == "__main__":
    unittest.main()
