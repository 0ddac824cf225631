"""Changes: points 81 to 83, with points 2, 3, 7, 22 and 45."""

import random
import time
import unittest
from itertools import combinations

from barebough.changes import gifts, mend, mend_tree, spare_turns
from barebough.errors import NotKept, WrongLength
from barebough.trees import Tree
from tests.games import Game, large_trees, path_links, star_links
from tests.helpers import game_keeps, orders, plain_keeps, random_links, random_sizes, size_lists, spoil

SECONDS = 5


def moves(sizes):
    """Return all size lists that one move leads to: a cell off one branch and onto another or alone."""
    found = set()
    for place in range(len(sizes)):
        less = list(sizes)
        less[place] -= 1
        found.add(tuple(sorted([entry for entry in less + [1] if entry], reverse=True)))
        for other in range(len(sizes)):
            if other != place:
                more = list(less)
                more[other] += 1
                found.add(tuple(sorted([entry for entry in more if entry], reverse=True)))
    return found


def fewest_moves(sizes, is_kept):
    """Return the least number of moves to a kept list, by trying all of them, or None."""
    seen = reached = {tuple(sizes)}
    count = 0
    while reached:
        if any(is_kept(state) for state in reached):
            return count
        reached = {after for state in reached for after in moves(state)} - seen
        seen = seen | reached
        count += 1
    return None


def choices(order, letter, other):
    """Yield the number of changed letters and the order, for every choice of letters."""
    places = [index for index, one in enumerate(order) if one == letter]
    for many in range(len(places) + 1):
        for chosen in combinations(places, many):
            yield many, "".join(other if index in chosen else one for index, one in enumerate(order))


class Case(unittest.TestCase):
    def check_wrong_length(self, function, arguments, given, needed):
        with self.assertRaises(WrongLength) as caught:
            function(*arguments)
        self.assertEqual((caught.exception.given, caught.exception.needed), (given, needed))


class Mending(Case):
    """Point 81."""

    def test_example(self):
        self.assertEqual(mend([3], "KRK"), [[3], [2, 1]])

    def test_kept_lists_stand_alone(self):
        for sizes, order in (([], ""), ([2, 1], "KRK"), ([1] * 5, "RRRRK"), ([4], "KKKK"), ([4], ""), ([7, 1], "R")):
            self.assertEqual(mend(sizes, order), [sizes])

    def test_several_moves(self):
        self.assertEqual(mend([5], "RRKRK"), [[5], [4, 1], [3, 1, 1], [2, 1, 1, 1]])
        self.assertEqual(mend([3, 3], "RRRRRK"), [[3, 3], [3, 2, 1], [2, 2, 1, 1], [2, 1, 1, 1, 1], [1] * 6])

    def test_none(self):
        for sizes, order in (([1], "R"), ([3], "KKR"), ([1, 1, 1, 1], "KRKR"), ([9], "K" * 8 + "R")):
            self.assertIsNone(mend(sizes, order))

    def test_fewest_moves_of_all_small_lists(self):
        for total in range(8):
            for turns in range(total + 1):
                for order in orders(turns):
                    for sizes in size_lists(total):
                        self.check(sizes, order)

    def check(self, sizes, order):
        least = fewest_moves(sizes, lambda state: plain_keeps(state, order))
        found = mend(sizes, order)
        if least is None:
            self.assertIsNone(found)
            return
        self.assertEqual(found[0], sizes)
        self.assertEqual(len(found), least + 1, (sizes, order))
        self.assertEqual([plain_keeps(state, order) for state in found], [False] * least + [True])
        for state, after in zip(found, found[1:]):
            lowered = [state[0] - 1] + state[1:] + [1]
            self.assertEqual(after, sorted([entry for entry in lowered if entry], reverse=True))

    def test_some_lists_against_the_whole_game(self):
        for sizes in size_lists(6):
            for order in ("RKRRRK", "KRRKRK", "RRKKRK", "KRRR", "RRRRK", "KKKKKR"):
                found = mend(sizes, order)
                told = any(game_keeps(other, order) for other in size_lists(6))
                self.assertIs(found is not None, told)
                if found:
                    self.assertEqual([game_keeps(state, order) for state in found], [False] * (len(found) - 1) + [True])

    def test_wrong_length(self):
        for sizes, order in (([], "K"), ([2, 1], "KRKR"), ([3], "R" * 199), ([1], "KK")):
            self.check_wrong_length(mend, (sizes, order), len(order), sum(sizes))

    def test_two_hundred_cells_within_seconds(self):
        start = time.monotonic()
        rng = random.Random(81)
        for sizes in ([199], [100, 99], [1] * 199, random_sizes(rng, 199)):
            for order in ("R" * 198 + "K", "KR" * 99 + "K", "K" * 199, "R" * 199, "R" * 150):
                found = mend(sizes, order)
                self.assertIs(found is None, order.endswith("R") and len(order) == 199)
                if found:
                    self.assertTrue(plain_keeps(found[-1], order))
        self.assertLess(time.monotonic() - start, SECONDS)


class MendingTrees(Case):
    """Point 82."""

    def told(self, size, links, cell, order):
        """Return the tips and the links at the end by the words of the point, or None."""
        if not any(plain_keeps(sizes, order) for sizes in size_lists(size - 1)):
            return None
        tips = []
        while True:
            game = Game(size, links)
            pieces = game.pieces(game.all - {cell})
            if plain_keeps(sorted(map(len, pieces), reverse=True), order):
                return tips, sorted(tuple(sorted(link)) for link in links)
            most = max(map(len, pieces))
            near, branch = min((min(game.near[cell] & set(piece)), piece) for piece in pieces if len(piece) == most)
            tip = min(one for one in branch if len(game.near[one]) == 1)
            tips.append(tip)
            links = [link for link in links if tip not in link] + [(tip, cell)]

    def check(self, size, links, cell, order):
        tree = Tree(size, links)
        found = mend_tree(tree, cell, order)
        told = self.told(size, links, cell, order)
        self.assertEqual(found if found is None else (found[0], found[1].links()), told)
        if found:
            self.assertIsInstance(found, tuple)
            self.assertTrue(plain_keeps(found[1].sizes(cell), order))
            self.assertEqual(len(found[0]), len(mend(tree.sizes(cell), order)) - 1)
            self.assertEqual(found[1].size, size)
        return found

    def test_small_trees(self):
        path = Tree(4, path_links(4))
        tips, tree = mend_tree(path, 0, "KRK")
        self.assertEqual((tips, tree.links()), ([3], [(0, 1), (0, 3), (1, 2)]))
        tips, tree = mend_tree(path, 0, "RRK")
        self.assertEqual((tips, tree.links()), ([3, 2], [(0, 1), (0, 2), (0, 3)]))
        self.assertEqual(path.links(), [(0, 1), (1, 2), (2, 3)])

    def test_no_move(self):
        for size, links, cell, order in ((4, path_links(4), 1, "KRK"), (1, [], 0, ""), (5, star_links(5), 0, "RRRK"),
                                         (4, path_links(4), 0, "")):
            tips, tree = mend_tree(Tree(size, links), cell, order)
            self.assertEqual((tips, tree.links()), ([], links))

    def test_none(self):
        for order in ("KKR", "RRR"):
            self.assertIsNone(mend_tree(Tree(4, path_links(4)), 1, order))

    def test_several_largest_branches(self):
        # Around 4 stand 3-0 and 2-1, of which 2-1 has the lower neighbour, and then 3-0.
        links = [(4, 3), (3, 0), (4, 2), (2, 1)]
        tips, tree = mend_tree(Tree(5, links), 4, "RRRK")
        self.assertEqual((tips, tree.links()), ([1, 0], [(0, 4), (1, 4), (2, 4), (3, 4)]))
        tips, tree = mend_tree(Tree(5, links), 4, "KRRK")
        self.assertEqual((tips, tree.links()), ([1], [(0, 3), (1, 4), (2, 4), (3, 4)]))

    def test_drawn_trees_by_the_words_of_the_point(self):
        rng = random.Random(82)
        moved = []
        for _ in range(250):
            size = rng.randint(1, 10)
            order = "".join(rng.choice("KRR") for _ in range(rng.randint(0, size - 1)))
            if rng.random() < 0.5:
                order = order[:-1] + "K" * bool(order)
            found = self.check(size, random_links(rng, size), rng.randrange(size), order)
            moved.append(None if found is None else len(found[0]))
        self.assertTrue(None in moved and 0 in moved and max(many or 0 for many in moved) > 2)

    def test_wrong_length(self):
        for size, order in ((1, "K"), (4, "KKKK"), (4, "R" * 9)):
            tree = Tree(size, path_links(size))
            self.check_wrong_length(mend_tree, (tree, 0, order), len(order), size - 1)

    def test_two_hundred_cells_within_seconds(self):
        for links in large_trees():
            start = time.monotonic()
            tree = Tree(200, links)
            for cell in (0, 199):
                tips, mended = mend_tree(tree, cell, "R" * 198 + "K")
                self.assertEqual(mended.links(), sorted(tuple(sorted((cell, one))) for one in range(200) if one != cell))
                self.assertEqual(len(tips), len(mend(tree.sizes(cell), "R" * 198 + "K")) - 1)
            self.assertLess(time.monotonic() - start, SECONDS)


class Letters(Case):
    """Point 83."""

    def test_gifts_against_all_choices(self):
        for total in range(7):
            for turns in range(total + 1):
                for order in orders(turns):
                    for sizes in size_lists(total):
                        least = min(many for many, changed in choices(order, "R", "K") if plain_keeps(sizes, changed))
                        number, changed = gifts(sizes, order)
                        self.assertEqual(number, least, (sizes, order))
                        self.assertTrue(plain_keeps(sizes, changed))
                        self.assertEqual(changed, self.with_last(order, number))

    def with_last(self, order, many):
        places = [index for index, letter in enumerate(order) if letter == "R"]
        chosen = places[len(places) - many:]
        return "".join("K" if index in chosen else letter for index, letter in enumerate(order))

    def test_spare_turns_against_all_choices(self):
        for total in range(7):
            for turns in range(total + 1):
                for order in orders(turns):
                    for sizes in size_lists(total):
                        if not plain_keeps(sizes, order):
                            with self.assertRaises(NotKept):
                                spare_turns(sizes, order)
                            continue
                        most = max(many for many, changed in choices(order, "K", "R") if plain_keeps(sizes, changed))
                        number, changed = spare_turns(sizes, order)
                        self.assertEqual(number, most, (sizes, order))
                        self.assertTrue(plain_keeps(sizes, changed))
                        self.assertEqual(changed, self.with_first(order, number))

    def with_first(self, order, many):
        chosen = [index for index, letter in enumerate(order) if letter == "K"][:many]
        return "".join("R" if index in chosen else letter for index, letter in enumerate(order))

    def test_small_lists(self):
        self.assertEqual(gifts([], ""), (0, ""))
        self.assertEqual(spare_turns([], ""), (0, ""))
        self.assertEqual(gifts([3], "RRR"), (3, "KKK"))
        self.assertEqual(gifts([2, 1], "RKR"), (1, "RKK"))
        self.assertEqual(spare_turns([1, 1, 1], "KKK"), (2, "RRK"))
        self.assertEqual(spare_turns([3], "KKK"), (0, "KKK"))
        self.assertEqual(spare_turns([5], "K"), (0, "K"))

    def test_wrong_length_comes_first(self):
        for function in (gifts, spare_turns):
            for sizes, order in (([], "K"), ([], "R"), ([2, 1], "KKKK"), ([2, 1], "RRRR"), ([4], "K" * 199)):
                self.check_wrong_length(function, (sizes, order), len(order), sum(sizes))

    def test_two_hundred_cells_within_seconds(self):
        start = time.monotonic()
        rng = random.Random(83)
        for sizes in ([199], [100, 99], [1] * 199, random_sizes(rng, 199, 30)):
            for order in ("R" * 198 + "K", "KR" * 99 + "K", "K" * 199, "R" * 199, "RRK" * 50):
                number, changed = gifts(sizes, order)
                self.assertTrue(plain_keeps(sizes, changed))
                self.assertEqual(changed.count("K") - order.count("K"), number)
                if number:
                    self.assertFalse(plain_keeps(sizes, self.with_last(order, number - 1)))
                number, after = spare_turns(sizes, changed)
                self.assertTrue(plain_keeps(sizes, after))
                if number < changed.count("K"):
                    self.assertFalse(plain_keeps(sizes, self.with_first(changed, number + 1)))
        self.assertLess(time.monotonic() - start, SECONDS)


class Separate(Case):
    """Point 2."""

    def test_passed_lists_stay(self):
        sizes = [4, 2]
        mend(sizes, "RRKRRK")
        gifts(sizes, "RRKRRR")
        spare_turns(sizes, "KKKKKK")
        self.check_wrong_length(mend, (sizes, "K" * 9), 9, 6)
        self.assertEqual(sizes, [4, 2])

    def test_the_first_list_is_not_the_passed_one(self):
        sizes = [2, 1]
        found = mend(sizes, "KRK")
        found[0].append(9)
        self.assertEqual((sizes, mend(sizes, "KRK")), ([2, 1], [[2, 1]]))

    def test_returned_lists_are_new(self):
        spoil(mend([5], "RRKRK"))
        self.assertEqual(mend([5], "RRKRK"), [[5], [4, 1], [3, 1, 1], [2, 1, 1, 1]])
        tree = Tree(4, path_links(4))
        spoil(mend_tree(tree, 0, "RRK")[0])
        tips, mended = mend_tree(tree, 0, "RRK")
        self.assertEqual((tips, mended.links(), tree.links()), ([3, 2], star_links(4), path_links(4)))


if __name__ == "__main__":
    unittest.main()
