"""Certificates: points 46 to 50, with points 2, 3, 28 and 30."""

import random
import time
import unittest
from itertools import product

from barebough.certificates import bad_line, certificate
from barebough.errors import WrongLength
from barebough.rows import first_break, free_row, pull, tail_rows
from tests.helpers import game_keeps, orders, plain_keeps, random_sizes, size_lists, spoil, step_row, top_sum

SECONDS = 5


def right_row(order, goal, rows, index):
    """Tell whether a line of a kept certificate is right, by the words of point 47; None if it cannot be told."""
    total = len(goal) + len(order) - index
    due = list(goal)
    if index < len(order):
        if len(rows[index + 1]) != total - 1:
            return None
        due = step_row(order[index], rows[index + 1])
    row = rows[index]
    return len(row) == total and all(row[k] <= due[k] or due[k] >= total for k in range(total))


def right_pair(order, goal, thread, index):
    """Tell whether a line of a lost certificate is right, by the words of point 48."""
    total = len(goal) + len(order) - index
    due = []
    if index == len(order):
        due.append((1, min(goal[0], total) if goal else 0))
        due += [(k, goal[k - 1]) for k in range(2, total + 1) if goal[k - 1] < total]
    else:
        j, b = thread[index + 1]
        s = total - 1
        if order[index] == "K":
            due += [(j, b + 1), (j + 1, b + 1 + b // j)]
        elif j == 1:
            due.append((1, min(b, s)))
        elif b < s:
            due.append((j, b))
    k, bound = thread[index]
    return any(k == other and bound >= d for other, d in due)


def judged(sizes, order, shown, goal):
    """Return what bad_line has to return, by the words of points 46 to 50."""
    kind, lines = shown
    right = right_row if kind == "kept" else right_pair
    for index in range(len(order), -1, -1):
        if not right(order, goal, lines, index):
            return index
    if kind == "kept":
        return None if all(top_sum(sizes, k + 1) <= bound for k, bound in enumerate(lines[0])) else -1
    k, bound = lines[0]
    return None if top_sum(sizes, k) > bound else -1


def goals(left):
    """Return goals for a sum: free ones, tight ones, negative and great ones."""
    if left == 0:
        return [[]]
    if left > 2:
        return [free_row(left), [1] + [left] * (left - 1), [left, -2] + [1000000] * (left - 2)]
    return [list(goal) for goal in product([-1000000, -1, 0, 1, 2, 1000000], repeat=left)]


def cases(most):
    """Return size lists with orders and goals, up to a sum."""
    return [(sizes, order, goal) for total in range(most + 1) for turns in range(total + 1) for order in orders(turns)
            for goal in goals(total - turns) for sizes in size_lists(total)]


class Making(unittest.TestCase):
    """Point 49, with 46 to 48."""

    def test_certificates_show_the_fate(self):
        for sizes, order, goal in cases(6):
            shown = certificate(sizes, order, goal=goal)
            self.assertEqual(shown[0], "kept" if game_keeps(sizes, order, goal) else "lost")
            self.assertEqual(len(shown[1]), len(order) + 1)
            self.assertIsNone(judged(sizes, order, shown, goal), (sizes, order, goal, shown))
            self.assertIsNone(bad_line(sizes, order, shown, goal=goal))
            self.check_first_line(sizes, order, goal, shown)

    def check_first_line(self, sizes, order, goal, shown):
        kind, lines = shown
        if kind == "kept":
            self.assertEqual(lines, tail_rows(order, goal=goal))
        else:
            row = pull(order, goal=goal)
            k = first_break(sizes, row)
            self.assertEqual(lines[0], (k, row[k - 1]))

    def test_kinds_of_values(self):
        for sizes, order in (([2, 1, 1], "KRRK"), ([2, 2], "KRRK"), ([], ""), ([3], "R")):
            shown = certificate(sizes, order)
            self.assertEqual([type(shown), type(shown[0]), type(shown[1])], [tuple, str, list])
            for line in shown[1]:
                self.assertIs(type(line), list if shown[0] == "kept" else tuple)
                self.assertEqual({type(number) for number in line} - {int}, set())

    def test_examples(self):
        self.assertEqual(certificate([2, 1, 1], "KRRK"), ("kept", [[2, 3, 4, 4], [1, 3, 3], [1, 2], [1], []]))
        kind, thread = certificate([2, 2], "KRRK")
        self.assertEqual((kind, thread[0], len(thread)), ("lost", (2, 3), 5))
        self.assertEqual(certificate([], ""), ("kept", [[]]))
        self.assertEqual(certificate([2, 1], "", goal=(1, 3, 3)), ("lost", [(1, 1)]))
        self.assertEqual(certificate([2, 1], "", goal=(9, 2, -4)), ("lost", [(2, 2)]))

    def test_goal_none_is_the_free_goal(self):
        for total in range(6):
            for turns in range(total + 1):
                for order in orders(turns):
                    for sizes in size_lists(total):
                        shown = certificate(sizes, order)
                        self.assertEqual(shown, certificate(sizes, order, goal=free_row(total - turns)))
                        self.assertEqual(shown, certificate(sizes, order, goal=tuple(free_row(total - turns))))
                        self.assertEqual(shown, certificate(sizes, order, goal=None))
                        self.assertIsNone(bad_line(sizes, order, shown))

    def test_wrong_length(self):
        for sizes, order, goal, given, needed in (
                ([1], "KR", None, 2, 1), ([1], "KR", [], 2, 1), ([2, 1], "K", (1,), 1, 2), ([2, 1], "K", [], 0, 2),
                ([2, 1], "KRK", [1], 1, 0), ([], "", [5], 1, 0)):
            with self.assertRaises(WrongLength) as caught:
                certificate(sizes, order, goal=goal)
            self.assertEqual((caught.exception.given, caught.exception.needed), (given, needed))

    def test_long_orders_within_seconds(self):
        start = time.monotonic()
        rng = random.Random(49)
        kinds = set()
        for _ in range(12):
            sizes = random_sizes(rng, 199, rng.choice([30, 199]))
            order = "".join(rng.choice("KRRR") for _ in range(rng.randint(100, 198))) + "K"
            shown = certificate(sizes, order)
            kinds.add(shown[0])
            self.assertEqual(shown[0] == "kept", plain_keeps(sizes, order))
            self.assertIsNone(bad_line(sizes, order, shown))
        self.assertEqual(kinds, {"kept", "lost"})
        self.assertLess(time.monotonic() - start, SECONDS)


class Judging(unittest.TestCase):
    """Points 47, 48 and 50."""

    def test_examples(self):
        thread = ("lost", [(2, 3), (1, 1), (1, 1), (1, 1), (1, 0)])
        self.assertEqual([bad_line([2, 2], "KRRK", thread), bad_line([2, 1, 1], "KRRK", thread)], [None, -1])

    def test_one_wrong_line_at_every_place(self):
        goal = [1, 3, 3]
        for index in range(5):
            lines = tail_rows("RKKR", goal=goal)
            lines[index][0] += 1
            self.assertEqual(bad_line([1] * 7, "RKKR", ("kept", lines), goal=goal), index)
        thread = [(2, 3), (1, 1), (1, 1), (1, 1), (1, 0)]
        for index in range(5):
            lines = thread[:]
            lines[index] = (lines[index][0], lines[index][1] - 1)
            self.assertEqual(bad_line([2, 2], "KRRK", ("lost", lines)), index)

    def test_of_several_wrong_lines_the_last_is_found(self):
        goal = [1, 3, 3]
        for first, second in ((0, 1), (0, 3), (0, 4), (1, 2), (2, 3), (3, 4)):
            lines = tail_rows("RKKR", goal=goal)
            lines[first][0] += 9
            lines[second][0] += 9
            self.assertEqual(bad_line([1] * 7, "RKKR", ("kept", lines), goal=goal), second)
        self.assertEqual(bad_line([2, 2], "KRRK", ("lost", [(9, 9), (9, 9), (1, 0), (1, 1), (1, 0)])), 2)
        self.assertEqual(bad_line([2, 2], "KRRK", ("lost", [(9, 9)] * 5)), 4)

    def test_rows_of_a_wrong_length(self):
        rows = tail_rows("KRRK")
        for index in range(5):
            for row in ([], [1] * (4 - index + 1), rows[index][1:], [0] * 9):
                if len(row) != 4 - index:
                    lines = rows[:index] + [row] + rows[index + 1:]
                    self.assertEqual(bad_line([2, 1, 1], "KRRK", ("kept", lines)), index)

    def test_bounds_below_and_above_what_is_due(self):
        self.assertIsNone(bad_line([1, 1, 1, 1], "KRRK", ("kept", [[1, 2, 3, 4], [1, 3, 3], [1, 2], [1], []])))
        self.assertEqual(bad_line([2, 1, 1], "KRRK", ("kept", [[1, 2, 3, 4], [1, 3, 3], [1, 2], [1], []])), -1)
        # The due bounds of at least the sum, 3 and 3 of 3 here, allow any bound.
        self.assertIsNone(bad_line([2, 1, 1], "KRRK", ("kept", [[2, 3, 99, 77], [1, 999, 4], [1, 50], [8], []])))
        self.assertEqual(bad_line([2, 1, 1], "KRRK", ("kept", [[2, 3, 4, 4], [2, 3, 3], [1, 2], [1], []])), 1)
        self.assertIsNone(bad_line([2, 2], "KRRK", ("lost", [(2, 3), (1, 1), (1, 1), (1, 1), (1, 0)])))
        self.assertEqual(bad_line([2, 2], "KRRK", ("lost", [(2, 4), (1, 1), (1, 1), (1, 1), (1, 0)])), -1)

    def test_bounds_of_the_line_below_may_be_free(self):
        # b is taken as it stands for K, and as the lesser of b and s for R and k = 1.
        self.assertIsNone(bad_line([2], "R", ("lost", [(1, 1), (1, 9)]), goal=[5]))
        self.assertEqual(bad_line([2], "R", ("lost", [(1, 0), (1, 9)]), goal=[5]), 0)
        self.assertEqual(bad_line([2], "K", ("lost", [(1, 9), (1, 9)]), goal=[5]), 0)
        self.assertEqual(bad_line([2], "K", ("lost", [(1, 10), (1, 9)]), goal=[5]), -1)
        self.assertEqual(bad_line([2, 1], "R", ("lost", [(2, 1), (2, 2)]), goal=[0, 1]), 0)
        self.assertIsNone(bad_line([2, 1], "R", ("lost", [(2, 1), (2, 1)]), goal=[0, 1]))

    def test_last_line_of_a_thread(self):
        self.assertIsNone(bad_line([2, 1], "", ("lost", [(1, 1)]), goal=[1, 9, 9]))
        self.assertEqual(bad_line([2, 1], "", ("lost", [(1, 0)]), goal=[1, 9, 9]), 0)
        self.assertEqual(bad_line([2, 1], "", ("lost", [(1, 3)]), goal=[9, 9, 9]), -1)
        self.assertEqual(bad_line([2, 1], "", ("lost", [(1, 2)]), goal=[9, 9, 9]), 0)
        self.assertEqual(bad_line([2, 1], "", ("lost", [(2, 3)]), goal=[9, 3, 9]), 0)
        self.assertIsNone(bad_line([2, 1], "", ("lost", [(2, 2)]), goal=[9, 2, 9]))
        self.assertEqual(bad_line([2, 1], "", ("lost", [(4, 9)]), goal=[0, 0, 0]), 0)
        self.assertEqual(bad_line([], "", ("lost", [(1, 0)])), -1)
        self.assertEqual(bad_line([], "", ("lost", [(1, -1)])), 0)
        self.assertEqual(bad_line([], "", ("lost", [(2, 5)])), 0)

    def test_quotients_of_negative_bounds_are_rounded_down(self):
        # From (3, -2) the bounds -1 for 3 and -2 + 1 - 1 for 4 are due.
        goal = [9, 9, -2, 9]
        self.assertEqual(bad_line([2, 2, 1], "K", ("lost", [(4, -2), (3, -2)]), goal=goal), None)
        self.assertEqual(bad_line([2, 2, 1], "K", ("lost", [(4, -3), (3, -2)]), goal=goal), 0)
        self.assertEqual(bad_line([2, 2, 1], "K", ("lost", [(3, -1), (3, -2)]), goal=goal), None)
        self.assertEqual(bad_line([2, 2, 1], "K", ("lost", [(3, -2), (3, -2)]), goal=goal), 0)

    def test_the_claim(self):
        for total in range(1, 6):
            for order in orders(total):
                for sizes in size_lists(total):
                    for other in size_lists(total):
                        shown = certificate(other, order)
                        found = bad_line(sizes, order, shown)
                        self.assertEqual(found, judged(sizes, order, shown, []))
                        self.assertIn(found, (None, -1))

    def test_changed_certificates(self):
        rng = random.Random(50)
        places = set()
        for _ in range(6000):
            total = rng.randint(0, 7)
            turns = rng.randint(0, total)
            order = "".join(rng.choice("KR") for _ in range(turns))
            goal = rng.choice(goals(total - turns))
            sizes = random_sizes(rng, total)
            shown = certificate(rng.choice([sizes, random_sizes(rng, total)]), order, goal=goal)
            for _ in range(rng.randint(0, 2)):
                self.change(rng, shown)
            expected = judged(sizes, order, shown, goal)
            found = bad_line(sizes, order, shown, goal=rng.choice([goal, tuple(goal)]))
            self.assertEqual(found, expected, (sizes, order, shown, goal))
            places.add(found)
            if found is None:
                self.assertEqual(shown[0] == "kept", game_keeps(sizes, order, goal))
        self.assertTrue({None, -1, 0, 1, 2, 3, 4, 5, 6} <= places)

    def change(self, rng, shown):
        kind, lines = shown
        index = rng.randrange(len(lines))
        if kind == "lost":
            k, bound = lines[index]
            lines[index] = (max(1, k + rng.choice([0, 0, -1, 1])), bound + rng.choice([-1, 1, 2]))
        elif lines[index] and rng.random() < 0.9:
            lines[index][rng.randrange(len(lines[index]))] += rng.choice([-1, 1, 2])
        else:
            lines[index] = lines[index] + [1]

    def test_any_thread_of_small_numbers(self):
        """No certificate that shows its claim is wrong about the fate."""
        shown = 0
        for order in orders(3):
            for thread in product(product((1, 2), (0, 1, 2)), repeat=3):
                lines = list(thread) + [(1, 0)]
                for sizes in size_lists(3):
                    found = bad_line(sizes, order, ("lost", lines))
                    self.assertEqual(found, judged(sizes, order, ("lost", lines), []))
                    if found is None:
                        shown += 1
                        self.assertFalse(game_keeps(sizes, order))
        self.assertGreater(shown, 10)

    def test_wrong_length(self):
        rows = ("kept", [[2, 3, 4, 4], [1, 3, 3], [1, 2], [1], []])
        thread = ("lost", [(2, 3), (1, 1), (1, 1), (1, 1), (1, 0)])
        for shown in (rows, thread):
            for sizes, order, goal, given, needed in (
                    ([1], "KR", None, 2, 1), ([1], "KR", [], 2, 1), ([2, 2], "KRR", [], 0, 1),
                    ([2, 2], "KRRK", (1,), 1, 0), ([2, 2], "KRR", None, 5, 4), ([2, 2], "KRR", [1], 5, 4),
                    ([5], "KRRKR", None, 5, 6), ([], "", (), 5, 1)):
                with self.assertRaises(WrongLength) as caught:
                    bad_line(sizes, order, shown, goal=goal)
                self.assertEqual((caught.exception.given, caught.exception.needed), (given, needed))
        for shown in (("kept", []), ("lost", [])):
            with self.assertRaises(WrongLength) as caught:
                bad_line([], "", shown)
            self.assertEqual((caught.exception.given, caught.exception.needed), (0, 1))

    def test_goals_are_passed_by_name(self):
        with self.assertRaises(TypeError):
            certificate([1, 1], "K", [1])
        with self.assertRaises(TypeError):
            bad_line([1, 1], "K", ("kept", [[2, 2], [1]]), [1])


class Separate(unittest.TestCase):
    """Point 2."""

    def test_returned_lists_are_new(self):
        for sizes, order, goal in (([2, 1, 1], "KRRK", None), ([2, 2], "KRRK", None), ([], "", None),
                                   ([2, 1], "", [2, 3, 3]), ([2, 1], "K", [2, 2])):
            before = repr((sizes, goal))
            shown = certificate(sizes, order, goal=goal)
            told = repr(shown)
            spoil(shown[1])
            self.assertEqual(repr((sizes, goal)), before)
            self.assertEqual(repr(certificate(sizes, order, goal=goal)), told)

    def test_the_rows_of_a_certificate_are_separate(self):
        rows = certificate([2, 1, 1], "KRRK")[1]
        rows[0].append(99)
        self.assertEqual([len(row) for row in rows], [5, 3, 2, 1, 0])

    def test_arguments_stay_as_they_are(self):
        goal = [9, 2]
        sizes = [2, 1, 1]
        for shown in (("kept", [[9] * 4, [9, 2, 9], [9, 2]]), ("lost", [(2, 4), (2, 3), (2, 2)]),
                      ("kept", [[], [], []])):
            before = repr((sizes, shown, goal))
            bad_line(sizes, "KK", shown, goal=goal)
            bad_line(sizes, "KK", shown)
            certificate(sizes, "KK", goal=goal)
            self.assertEqual(repr((sizes, shown, goal)), before)


if __name__ == "__main__":
    unittest.main()
