"""Woods: points 73 to 76, with points 2, 3, 4 and 21."""

import random
import time
import unittest
from functools import lru_cache
from itertools import product

from barebough.errors import BadTree, LastCell, NotLive, WrongLength
from barebough.woods import Wood, struck, wood_keeper_pluck, wood_kept, wood_raider_pluck
from tests.games import Game, path_links, star_links
from tests.helpers import orders, plain_keeps, random_links, spoil

SECONDS = 5
# Three trees: 4-1-0 and 1-3, 2-6, and 5 alone.
LINKS = [(4, 1), (1, 0), (3, 1), (2, 6)]
LAYERS = [2, 1, 3, 4, 1, 2, 9]


class WoodGame:
    """The whole game on a wood; states are tuples of the layers that are left."""

    def __init__(self, size, links, layers):
        self.game = Game(size, links)
        self.start = tuple(layers)
        self.trees = self.game.pieces(self.game.all)

    def live(self, left):
        return [cell for cell, layers in enumerate(left) if layers]

    def loose(self, left):
        return [cell for cell in self.live(left) if sum(left[other] > 0 for other in self.game.near[cell]) <= 1]

    def after(self, left, cell):
        return left[:cell] + (left[cell] - 1,) + left[cell + 1:]

    def solver(self, cell):
        @lru_cache(maxsize=None)
        def wins(order, left):
            if not order or not left[cell]:
                return left[cell] > 0
            results = (wins(order[1:], self.after(left, one)) for one in self.loose(left))
            return any(results) if order[0] == "K" else all(results)

        return lambda order: wins(order, self.start)

    def guided(self, side, cell, advice):
        """Return a function of the order that tells which ends can be reached, as `Game.guided`."""
        @lru_cache(maxsize=None)
        def ends(order, left):
            if not order or not left[cell]:
                return {left[cell] > 0}
            choices = [advice(left)] if order[0] == side else self.loose(left)
            if not set(choices) <= set(self.loose(left)):
                raise AssertionError(f"{choices} cannot be plucked off {left}")
            return set().union(*(ends(order[1:], self.after(left, one)) for one in choices))

        return lambda order: ends(order, self.start)

    def told(self, left, cell):
        """Return what both guides have to answer, by the words of point 76."""
        loose = self.loose(left)
        home = next(tree for tree in self.trees if cell in tree)
        others = [one for one in loose if one not in home]
        branches = []
        for piece in self.game.pieces(set(home) & set(self.live(left)) - {cell}):
            near = min(self.game.near[cell] & set(piece))
            branches.append((sum(left[one] for one in piece), near, min(set(piece) & set(loose))))
        keeper = raider = cell
        if branches:
            most = max(weight for weight, _, _ in branches)
            keeper = min((near, tip) for weight, near, tip in branches if weight == most)[1]
        if others:
            keeper = others[0]
        if len(branches) > 1:
            raider = min(branches)[2]
        return keeper, raider


def small_woods():
    """Yield woods of up to five cells and eight layers."""
    forests = [(1, []), (2, []), (2, [(0, 1)]), (3, []), (3, [(1, 2)]), (3, [(0, 1), (1, 2)]),
               (4, [(0, 2), (2, 3)]), (4, [(3, 0), (1, 2)]), (4, [(2, 0), (2, 1), (2, 3)]), (4, path_links(4)),
               (5, star_links(5)), (5, [(0, 1), (1, 2), (2, 3), (2, 4)]), (5, [(0, 1), (1, 2), (3, 4)])]
    for size, links in forests:
        for layers in product((1, 2, 3), repeat=size):
            if sum(layers) <= min(8, size + 3):
                yield size, links, list(layers)


class Building(unittest.TestCase):
    """Point 73."""

    def bad_index(self, size, links):
        with self.assertRaises(BadTree) as caught:
            Wood(size, links, [1] * size)
        return caught.exception.index

    def test_one_cell(self):
        for layers in (1, 9):
            wood = Wood(1, [], [layers])
            self.assertEqual((wood.size, wood.total(), wood.layers(), wood.spares(0), wood.layer_sizes(0)),
                             (1, layers, [layers], 0, []))
            self.assertEqual((wood.loose([layers]), wood.loose([1]), wood.loose([0])), ([0], [0], []))

    def test_cells_that_are_not_all_joined(self):
        self.assertEqual(Wood(3, [], [1, 1, 1]).loose([1, 1, 1]), [0, 1, 2])
        self.assertEqual(Wood(7, LINKS, LAYERS).size, 7)
        self.assertEqual(Wood(4, [(2, 3)], [1] * 4).spares(0), 3)

    def test_bad_links(self):
        self.assertEqual(self.bad_index(3, [(0, 1), (1, 3)]), 1)
        self.assertEqual(self.bad_index(3, [(3, 0)]), 0)
        self.assertEqual(self.bad_index(3, [(-1, 0)]), 0)
        self.assertEqual(self.bad_index(3, [(0, 1), (1, -1)]), 1)
        self.assertEqual(self.bad_index(4, [(0, 1), (3, 3)]), 1)
        self.assertEqual(self.bad_index(4, [(0, 1), (2, 3), (1, 0)]), 2)
        self.assertEqual(self.bad_index(5, [(0, 1), (1, 2), (4, 3), (2, 0), (9, 9)]), 3)
        self.assertEqual(self.bad_index(1, [(0, 0)]), 0)


class Reading(unittest.TestCase):
    """Point 74."""

    def test_small_wood(self):
        wood = Wood(7, LINKS, LAYERS)
        self.assertEqual((wood.total(), wood.layers()), (22, LAYERS))
        self.assertEqual([wood.spares(cell) for cell in range(7)], [14, 14, 10, 14, 14, 20, 10])
        self.assertEqual([wood.layer_sizes(cell) for cell in range(7)],
                         [[6], [4, 2, 1], [9], [4], [7], [], [3]])

    def test_loose_cells_while_layers_are_taken_off(self):
        wood = Wood(7, LINKS, LAYERS)
        self.assertEqual(wood.loose(LAYERS), [0, 2, 3, 4, 5, 6])
        self.assertEqual(wood.loose([1, 1, 3, 4, 0, 2, 9]), [0, 2, 3, 5, 6])
        self.assertEqual(wood.loose([0, 1, 0, 1, 0, 0, 9]), [1, 3, 6])
        self.assertEqual(wood.loose([0, 1, 0, 0, 0, 0, 0]), [1])
        self.assertEqual(wood.loose([0] * 7), [])

    def test_by_the_words_of_the_points(self):
        rng = random.Random(74)
        for _ in range(60):
            size = rng.randint(1, 9)
            links = [link for link in random_links(rng, size) if rng.random() < 0.7]
            layers = [rng.randint(1, 9) for _ in range(size)]
            wood, game = Wood(size, links, layers), WoodGame(size, links, layers)
            left = game.start
            while sum(left):
                self.assertEqual(wood.loose(list(left)), game.loose(left))
                left = game.after(left, rng.choice(game.loose(left)))
            for tree in game.trees:
                for cell in tree:
                    self.assertEqual(wood.spares(cell), sum(layers) - sum(layers[one] for one in tree))
                    weights = [sum(layers[one] for one in piece) for piece in game.game.pieces(set(tree) - {cell})]
                    self.assertEqual(wood.layer_sizes(cell), sorted(weights, reverse=True))


class Striking(unittest.TestCase):
    """Point 75: struck."""

    def test_examples(self):
        self.assertEqual([struck("KRK", spares=1, layers=3), struck("KRRK", layers=2), struck("RRK", spares=2)],
                         ["K", "KRK", None])

    def test_keywords_left_out(self):
        for order in orders(5):
            self.assertEqual(struck(order), order)
            self.assertEqual(struck(order, spares=0, layers=1), order)
            self.assertEqual(struck(order, layers=2), struck(order, spares=0, layers=2))
            self.assertEqual(struck(order, spares=1), struck(order, spares=1, layers=1))

    def test_by_the_words_of_the_point(self):
        for turns in range(7):
            for order in orders(turns):
                for spares, layers in product(range(8), range(1, 9)):
                    self.assertEqual(struck(order, spares=spares, layers=layers), self.told(order, spares, layers))

    def told(self, order, spares, layers):
        keeps = [index for index, letter in enumerate(order) if letter == "K"]
        raids = [index for index, letter in enumerate(order) if letter == "R"]
        if len(keeps) < spares:
            return None
        gone = keeps[:spares] + raids[::-1][:layers - 1]
        return "".join(letter for index, letter in enumerate(order) if index not in gone)

    def test_edges(self):
        self.assertEqual([struck(""), struck("", layers=5), struck("", spares=1)], ["", "", None])
        self.assertEqual([struck("RRR", layers=200), struck("KKK", spares=3, layers=200)], ["", ""])
        self.assertIsNone(struck("K" * 199, spares=200))
        self.assertEqual(struck("KR" * 99 + "K", spares=60, layers=61), "R" * 39 + "K" * 40)


class Fates(unittest.TestCase):
    """Point 75: wood_kept."""

    def test_against_the_whole_game(self):
        fates = set()
        for size, links, layers in small_woods():
            wood, game = Wood(size, links, layers), WoodGame(size, links, layers)
            for cell in range(size):
                wins = game.solver(cell)
                for order in orders(sum(layers) - 1):
                    fates.add(wins(order))
                    self.assertIs(wood_kept(wood, cell, order), wins(order), (links, layers, cell, order))
        self.assertEqual(fates, {True, False})

    def test_one_cell(self):
        for layers in range(1, 7):
            for order in orders(layers - 1):
                self.assertIs(wood_kept(Wood(1, [], [layers]), 0, order), True)

    def test_wrong_length(self):
        wood = Wood(7, LINKS, LAYERS)
        for order in ("", "K" * 20, "K" * 22, "R" * 199):
            for cell in range(7):
                with self.assertRaises(WrongLength) as caught:
                    wood_kept(wood, cell, order)
                self.assertEqual((caught.exception.given, caught.exception.needed), (len(order), 21))
        with self.assertRaises(WrongLength):
            wood_kept(Wood(1, [], [1]), 0, "K")

    def test_large_woods_within_seconds(self):
        start = time.monotonic()
        rng = random.Random(75)
        for links in (path_links(60), star_links(60), [], random_links(rng, 60), random_links(rng, 60)[::2]):
            layers = [3] * 40 + [4] * 20
            wood, game = Wood(60, links, layers), WoodGame(60, links, layers)
            for order in ("KR" * 99 + "K", "K" * 60 + "RKK" * 46 + "K", "K" * 199, "R" * 199):
                for cell in (0, 31, 59):
                    rest = struck(order, spares=wood.spares(cell), layers=layers[cell])
                    told = rest is not None and ("R" not in rest or plain_keeps(wood.layer_sizes(cell), rest))
                    self.assertIs(wood_kept(wood, cell, order), told)
            for cell in (0, 59):
                self.assertEqual((wood_keeper_pluck(wood, layers, cell), wood_raider_pluck(wood, layers, cell)),
                                 game.told(layers, cell))
        self.assertLess(time.monotonic() - start, SECONDS)


class Guides(unittest.TestCase):
    """Point 76."""

    def both(self, wood, left, cell):
        return wood_keeper_pluck(wood, left, cell), wood_raider_pluck(wood, left, cell)

    def test_every_branch_of_the_rules(self):
        wood = Wood(7, LINKS, LAYERS)
        # Cells of other trees are live; around 1 the branch 4 has the fewest layers.
        self.assertEqual(self.both(wood, LAYERS, 1), (2, 4))
        self.assertEqual(self.both(wood, [2, 1, 0, 4, 1, 2, 9], 1), (5, 4))
        # The own tree alone: around 1 the branch 3 has the most layers.
        self.assertEqual(self.both(wood, [2, 1, 0, 4, 1, 0, 0], 1), (3, 4))
        self.assertEqual(self.both(wood, [2, 1, 0, 2, 2, 0, 0], 1), (0, 0))
        self.assertEqual(self.both(wood, [1, 1, 0, 2, 2, 0, 0], 1), (3, 0))
        self.assertEqual(self.both(wood, [2, 1, 0, 1, 1, 0, 0], 1), (0, 3))
        # One live branch, and none.
        self.assertEqual(self.both(wood, [0, 1, 0, 3, 0, 0, 0], 1), (3, 1))
        self.assertEqual(self.both(wood, [0, 0, 0, 3, 0, 0, 0], 3), (3, 3))
        self.assertEqual(self.both(wood, [0, 1, 0, 3, 0, 1, 0], 3), (5, 3))
        self.assertEqual(self.both(wood, [2, 1, 0, 4, 1, 0, 0], 3), (0, 3))

    def test_of_equal_branches_the_lowest_neighbour_decides(self):
        # Around 4: 3-0 with the neighbour 3, and 2-1 with the neighbour 2.
        wood = Wood(5, [(4, 3), (3, 0), (4, 2), (2, 1)], [1] * 5)
        self.assertEqual(self.both(wood, [1, 2, 1, 2, 1], 4), (1, 1))
        self.assertEqual(self.both(wood, [2, 2, 1, 2, 1], 4), (0, 1))
        # Layers count, not cells: 3-0 has four layers, and 2 alone has five.
        self.assertEqual(self.both(wood, [2, 0, 5, 2, 1], 4), (2, 0))

    def test_errors(self):
        wood = Wood(7, LINKS, LAYERS)
        for guide in (wood_keeper_pluck, wood_raider_pluck):
            for left, cell in (([0, 1, 0, 1, 1, 0, 0], 0), ([0, 0, 0, 1, 0, 0, 0], 1), ([0] * 6 + [9], 2)):
                with self.assertRaises(NotLive) as caught:
                    guide(wood, left, cell)
                self.assertEqual(caught.exception.cell, cell)
            for cell in (0, 3, 5):
                left = [0] * 7
                left[cell] = 1
                with self.assertRaises(LastCell) as caught:
                    guide(wood, left, cell)
                self.assertEqual(caught.exception.cell, cell)
            # With one layer left in all, a dead named cell is told first.
            with self.assertRaises(NotLive) as caught:
                guide(wood, [0, 0, 0, 1, 0, 0, 0], 5)
            self.assertEqual(caught.exception.cell, 5)
        self.assertEqual(self.both(wood, [2, 0, 0, 0, 0, 0, 0], 0), (0, 0))

    def test_by_the_words_of_the_point(self):
        rng = random.Random(76)
        for _ in range(80):
            size = rng.randint(1, 9)
            links = [link for link in random_links(rng, size) if rng.random() < 0.85]
            layers = [rng.randint(1, 3) for _ in range(size)]
            wood, game = Wood(size, links, layers), WoodGame(size, links, layers)
            left = game.start
            while sum(left) > 1:
                for cell in game.live(left):
                    self.assertEqual(self.both(wood, list(left), cell), game.told(left, cell))
                left = game.after(left, rng.choice(game.loose(left)))

    def test_guided_plays(self):
        for size, links, layers in small_woods():
            if sum(layers) > 7:
                continue
            wood, game = Wood(size, links, layers), WoodGame(size, links, layers)
            for cell in range(size):
                kept = game.guided("K", cell, lambda left, one=cell: wood_keeper_pluck(wood, list(left), one))
                lost = game.guided("R", cell, lambda left, one=cell: wood_raider_pluck(wood, list(left), one))
                for order in orders(sum(layers) - 1):
                    if wood_kept(wood, cell, order):
                        self.assertEqual(kept(order), {True})
                    else:
                        self.assertEqual(lost(order), {False})


class Separate(unittest.TestCase):
    """Point 2."""

    def test_passed_lists(self):
        links, layers = list(LINKS), list(LAYERS)
        wood = Wood(7, links, layers)
        left = [1, 1, 3, 4, 0, 2, 9]
        wood.loose(left)
        wood_keeper_pluck(wood, left, 1)
        wood_raider_pluck(wood, left, 1)
        self.assertEqual((links, layers, left), (LINKS, LAYERS, [1, 1, 3, 4, 0, 2, 9]))
        links.clear()
        spoil(layers)
        layers[0] = 7
        self.assertEqual((wood.layers(), wood.total(), wood.layer_sizes(1)), (LAYERS, 22, [4, 2, 1]))

    def test_returned_lists_are_new(self):
        wood = Wood(7, LINKS, LAYERS)
        for ask in (wood.layers, lambda: wood.layer_sizes(1), lambda: wood.loose(LAYERS)):
            before = ask()
            spoil(ask())
            self.assertEqual(ask(), before)
        self.assertIs(wood_kept(wood, 1, "K" * 21), wood_kept(Wood(7, LINKS[::-1], LAYERS), 1, "K" * 21))


if __name__ == "__main__":
    unittest.main()
