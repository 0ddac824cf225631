"""Webs: points 77 to 80, with points 2, 3 and 21."""

import random
import time
import unittest
from itertools import combinations

from barebough.errors import BadTree, NotSound, WrongLength
from barebough.fates import kept
from barebough.trees import Tree
from barebough.webs import Web, web_kept
from tests.games import Game, path_links, renamed, shapes
from tests.helpers import orders, plain_keeps, random_links, spoil

SECONDS = 5
# Two triangles that share the cell 2, a ring of four cells 4-5-6-7 behind the link 3-4.
LINKS = [(0, 1), (1, 2), (2, 0), (2, 3), (3, 8), (8, 2), (3, 4), (4, 5), (5, 6), (6, 7), (7, 4)]


def complete(cells):
    return list(combinations(cells, 2))


def ring(size):
    return [(cell, (cell + 1) % size) for cell in range(size)]


def webs_of(size):
    """Return the links of all webs with so many cells."""
    pairs = complete(range(size))
    found = []
    for number in range(2 ** len(pairs)):
        links = [pair for place, pair in enumerate(pairs) if number >> place & 1]
        if len(Game(size, links).pieces(range(size))) == 1:
            found.append(links)
    return found


def random_web(rng, size, more):
    """Return the links of a web: those of a tree and some more."""
    links = {tuple(sorted(link)) for link in random_links(rng, size)}
    others = [pair for pair in complete(range(size)) if pair not in links]
    return sorted(links) + rng.sample(others, min(more, len(others)))


def sound_web(rng, size):
    """Return the links of a sound web, made of complete groups that share cells."""
    links = []
    cells = 1
    while cells < size:
        more = list(range(cells, min(size, cells + rng.randint(1, 4))))
        links += complete([rng.randrange(cells)] + more)
        cells += len(more)
    return renamed(rng, size, links)


def rings(size, links):
    """Return the sets of links of all rings."""
    near = Game(size, links).near
    found = set()

    def walk(path):
        for other in near[path[-1]]:
            if other == path[0] and len(path) >= 3:
                found.add(frozenset(frozenset(pair) for pair in zip(path, path[1:] + path[:1])))
            elif other > path[0] and other not in path:
                walk(path + [other])

    for cell in range(size):
        walk([cell])
    return found


def blocks_told(size, links):
    """Return the blocks by the words of point 78."""
    closed = rings(size, links)
    found = set()
    for link in links:
        together = {frozenset(link)}.union(*(ring for ring in closed if frozenset(link) in ring))
        found.add(tuple(sorted(set().union(*together))))
    return [list(block) for block in sorted(found)]


def sound_told(size, links):
    near = Game(size, links).near
    return all(other in near[one] for block in blocks_told(size, links) for one, other in combinations(block, 2))


def flaw_told(size, links):
    """Return the flaw of a web that is not sound, by the words of point 79."""
    game = Game(size, links)
    for cell in range(size):
        pieces = game.pieces(game.all - {cell})
        pairs = [(one, other, piece) for piece in pieces
                 for one, other in combinations(sorted(set(piece) & game.near[cell]), 2)
                 if other not in game.near[one]]
        if pairs:
            first, second, home = min(pairs)
            stay = {cell, first, second} | {min(set(piece) & game.near[cell]) for piece in pieces if piece != home}
            live, plan = game.all, []
            while live != stay:
                plan.append(min(set(game.loose(live)) - stay))
                live = live - {plan[-1]}
            return cell, first, second, plan, "K" * len(plan) + "R" * len(pieces) + "K"
    return None


class Building(unittest.TestCase):
    """Point 77."""

    def bad_index(self, size, links):
        with self.assertRaises(BadTree) as caught:
            Web(size, links)
        return caught.exception.index

    def test_bad_links(self):
        self.assertEqual(self.bad_index(3, [(0, 1), (1, 3)]), 1)
        self.assertEqual(self.bad_index(3, [(3, 1), (0, 1)]), 0)
        self.assertEqual(self.bad_index(3, [(0, 1), (-1, 2)]), 1)
        self.assertEqual(self.bad_index(3, [(0, 1), (2, -1)]), 1)
        self.assertEqual(self.bad_index(3, [(0, 1), (2, 2)]), 1)
        self.assertEqual(self.bad_index(1, [(0, 0)]), 0)
        self.assertEqual(self.bad_index(1, [(0, 1)]), 0)
        self.assertEqual(self.bad_index(3, [(0, 1), (1, 2), (0, 1)]), 2)
        self.assertEqual(self.bad_index(3, [(0, 1), (1, 2), (1, 0), (5, 5)]), 2)

    def test_not_all_joined(self):
        self.assertEqual(self.bad_index(2, []), 0)
        self.assertEqual(self.bad_index(4, [(0, 1), (1, 2), (2, 0)]), 3)
        self.assertEqual(self.bad_index(4, [(0, 1), (3, 2)]), 2)
        # A bad link comes first.
        self.assertEqual(self.bad_index(5, [(0, 1), (1, 1), (2, 3)]), 1)

    def test_rings_are_no_fault(self):
        self.assertEqual(Web(3, [(0, 1), (2, 1), (0, 2)]).size, 3)
        self.assertEqual(Web(9, LINKS).size, 9)

    def test_neighbours(self):
        web = Web(9, LINKS[::-1])
        self.assertEqual([web.neighbours(cell) for cell in range(9)],
                         [[1, 2], [0, 2], [0, 1, 3, 8], [2, 4, 8], [3, 5, 7], [4, 6], [5, 7], [4, 6], [2, 3]])
        self.assertEqual(Web(1, []).neighbours(0), [])

    def test_loose_cells(self):
        web = Web(9, LINKS)
        self.assertEqual(web.loose(list(range(9))), [0, 1, 5, 6, 7, 8])
        self.assertEqual(web.loose([7, 6, 5, 4, 3]), [3, 5, 6, 7])
        self.assertEqual(web.loose([4, 5, 6]), [4, 6])
        self.assertEqual(web.loose([6, 5]), [5, 6])
        self.assertEqual([web.loose([cell]) for cell in range(9)], [[cell] for cell in range(9)])
        self.assertEqual(Web(1, []).loose([0]), [0])
        self.assertEqual(Web(6, complete(range(6))).loose([5, 3, 0]), [0, 3, 5])

    def test_loose_cells_of_all_small_webs(self):
        for size in range(1, 5):
            for links in webs_of(size):
                web, game = Web(size, links), Game(size, links)
                for cells in game.regions():
                    self.assertEqual(web.loose(cells), game.loose(frozenset(cells)))


class Pieces(unittest.TestCase):
    """Point 78."""

    def test_small_web(self):
        web = Web(9, LINKS)
        self.assertEqual(web.pieces(2), [[0, 1], [3, 4, 5, 6, 7, 8]])
        self.assertEqual(web.pieces(4), [[0, 1, 2, 3, 8], [5, 6, 7]])
        self.assertEqual(web.pieces(6), [[0, 1, 2, 3, 4, 5, 7, 8]])
        self.assertEqual([web.sizes(cell) for cell in (2, 3, 4, 6)], [[6, 2], [4, 4], [5, 3], [8]])
        self.assertEqual(web.blocks(), [[0, 1, 2], [2, 3, 8], [3, 4], [4, 5, 6, 7]])

    def test_one_cell(self):
        web = Web(1, [])
        self.assertEqual((web.size, web.pieces(0), web.sizes(0), web.blocks(), web.is_sound(), web.flaw()),
                         (1, [], [], [], True, None))

    def test_rings_and_complete_groups(self):
        for size in (3, 4, 9, 40):
            self.assertEqual(Web(size, ring(size)).blocks(), [list(range(size))])
            self.assertEqual(Web(size, ring(size)).sizes(1), [size - 1])
        for size in (2, 3, 5, 20):
            web = Web(size, complete(range(size)))
            self.assertEqual((web.blocks(), web.pieces(0)), ([list(range(size))], [list(range(1, size))]))

    def test_trees(self):
        for size in range(1, 8):
            for links in shapes(size):
                web, tree = Web(size, links), Tree(size, links)
                self.assertEqual(web.blocks(), [list(link) for link in tree.links()])
                self.assertEqual([web.sizes(cell) for cell in range(size)], tree.all_sizes())
                self.assertEqual([web.pieces(cell) for cell in range(size)],
                                 [sorted(tree.branches(cell)) for cell in range(size)])

    def test_pieces_stand_in_the_order_of_their_lowest_cells(self):
        # 4 has the neighbours 1 and 2, but 0 hangs behind 2.
        self.assertEqual(Web(5, [(4, 1), (1, 3), (4, 2), (2, 0)]).pieces(4), [[0, 2], [1, 3]])

    def test_all_webs_of_up_to_five_cells(self):
        for size in range(1, 6):
            for links in webs_of(size):
                web, game = Web(size, links), Game(size, links)
                self.assertEqual(web.blocks(), blocks_told(size, links))
                for cell in range(size):
                    pieces = game.pieces(game.all - {cell})
                    self.assertEqual(web.pieces(cell), pieces)
                    self.assertEqual(web.sizes(cell), sorted(map(len, pieces), reverse=True))

    def test_drawn_webs(self):
        rng = random.Random(78)
        for size, more in ((7, 2), (8, 3), (9, 4), (10, 5), (12, 3)) * 4:
            links = random_web(rng, size, more)
            self.assertEqual(Web(size, links).blocks(), blocks_told(size, links))


class Soundness(unittest.TestCase):
    """Point 79."""

    def test_example(self):
        self.assertEqual(Web(4, ring(4)).flaw(), (0, 1, 3, [2], "KRK"))

    def test_small_web(self):
        web = Web(9, LINKS)
        self.assertIs(web.is_sound(), False)
        # Around 4 the neighbours 5 and 7 are no neighbours of each other, and 3 is another door.
        self.assertEqual(web.flaw(), (4, 5, 7, [0, 1, 2, 6, 8], "KKKKKRRK"))
        self.assertIs(Web(8, [link for link in LINKS if 8 not in link]).is_sound(), False)
        self.assertIs(Web(9, LINKS + [(4, 6)]).is_sound(), False)
        self.assertIs(Web(9, LINKS + [(4, 6), (5, 7)]).is_sound(), True)

    def test_trees_and_complete_groups_are_sound(self):
        rng = random.Random(79)
        for size in (1, 2, 3, 9, 20):
            for links in (random_links(rng, size), complete(range(size)), sound_web(rng, size)):
                self.assertEqual((Web(size, links).is_sound(), Web(size, links).flaw()), (True, None))

    def test_all_webs_of_up_to_five_cells(self):
        for size in range(1, 6):
            for links in webs_of(size):
                self.check(size, links)

    def test_drawn_webs(self):
        rng = random.Random(790)
        for size, more in ((6, 1), (6, 4), (7, 2), (7, 9), (8, 1), (8, 3), (9, 2), (10, 4)) * 4:
            self.check(size, random_web(rng, size, more))

    def check(self, size, links):
        web = Web(size, links)
        sound = sound_told(size, links)
        self.assertIs(web.is_sound(), sound)
        self.assertEqual(web.flaw(), flaw_told(size, links))
        if sound:
            self.assertIsNone(web.flaw())
            return
        cell, _, _, plan, order = web.flaw()
        self.assertEqual(len(order), size - 1)
        self.assertIs(plain_keeps(web.sizes(cell), order), False)
        # Keeper follows the plan, and then Raider cannot pluck the cell.
        game = Game(size, links)
        live = game.all
        for one in plan:
            self.assertIn(one, game.loose(live))
            live = live - {one}
        rest = order[len(plan):]
        ends = {live}
        for letter in rest:
            ends = {left - {one} for left in ends for one in game.loose(left)
                    if letter == "R" or one != cell}
        self.assertEqual(ends, {frozenset([cell])})

    def test_a_flaw_contradicts_the_size_lists(self):
        rng = random.Random(791)
        for size, more in ((4, 1), (5, 2), (6, 2), (7, 1), (7, 3)) * 3:
            links = random_web(rng, size, more)
            flaw = Web(size, links).flaw()
            if flaw is not None:
                wins = Game(size, links).solver(lambda live, cell=flaw[0]: cell in live)
                self.assertTrue(wins(flaw[4]))
                self.assertFalse(kept(Web(size, links).sizes(flaw[0]), flaw[4]))

    def test_lowest_pairs(self):
        # Around 0: the pairs 1-4 and 2-3 in different pieces; then 1-3 and 1-4, of which 1-3 is lower.
        links = [(0, 1), (0, 4), (1, 5), (5, 4), (0, 2), (0, 3), (2, 6), (6, 3)]
        self.assertEqual(Web(7, links).flaw()[:3], (0, 1, 4))
        self.assertEqual(Web(7, links).flaw(), flaw_told(7, links))
        links = [(0, 1), (0, 3), (0, 4), (1, 2), (2, 3), (3, 4)]
        self.assertEqual(Web(5, links).flaw()[:3], (0, 1, 3))

    def test_forty_cells_within_seconds(self):
        start = time.monotonic()
        rng = random.Random(40)
        for links in (complete(range(40)), complete(range(40))[:-1], ring(40), random_web(rng, 40, 20),
                      [(one, other) for one in range(20) for other in range(20, 40)], sound_web(rng, 40),
                      complete(range(20)) + complete(range(20, 40)) + [(3, 25)]):
            web = Web(40, links)
            sound = web.is_sound()
            self.assertIs(web.flaw() is None, sound)
            self.assertTrue(web.blocks())
            self.assertEqual(web.loose(list(range(40))), Game(40, links).loose(frozenset(range(40))))
        self.assertIs(Web(40, complete(range(20)) + complete(range(20, 40)) + [(3, 25)]).is_sound(), True)
        self.assertLess(time.monotonic() - start, SECONDS)


class Fates(unittest.TestCase):
    """Point 80."""

    def test_small_sound_webs_against_the_whole_game(self):
        fates = set()
        rng = random.Random(80)
        webs = [(size, links) for size in range(1, 6) for links in webs_of(size) if sound_told(size, links)]
        webs += [(size, sound_web(rng, size)) for size in (6, 6, 7, 7, 8)]
        for size, links in rng.sample(webs, 120) + webs[:40] + webs[-5:]:
            web, game = Web(size, links), Game(size, links)
            for cell in range(size):
                wins = game.solver(lambda live, one=cell: one in live)
                for turns in range(size):
                    for order in orders(turns):
                        fates.add(wins(order))
                        self.assertIs(web_kept(web, cell, order), wins(order), (links, cell, order))
        self.assertEqual(fates, {True, False})

    def test_wrong_length(self):
        web = Web(4, complete(range(4)))
        for order in ("KKKK", "RRRRR", "K" * 199):
            with self.assertRaises(WrongLength) as caught:
                web_kept(web, 2, order)
            self.assertEqual((caught.exception.given, caught.exception.needed), (len(order), 3))
        with self.assertRaises(WrongLength):
            web_kept(Web(1, []), 0, "K")

    def test_not_sound_comes_first(self):
        for order in ("", "KRK", "KKKKKK"):
            for cell in range(4):
                with self.assertRaises(NotSound):
                    web_kept(Web(4, ring(4)), cell, order)

    def test_complete_groups_of_twenty_cells(self):
        start = time.monotonic()
        web = Web(20, complete(range(20)))
        for cell in (0, 19):
            self.assertIs(web_kept(web, cell, "K" * 19), True)
            self.assertIs(web_kept(web, cell, "K" * 18 + "R"), False)
            self.assertIs(web_kept(web, cell, "K" * 5), True)
            self.assertIs(web_kept(web, cell, "R"), False)
        self.assertLess(time.monotonic() - start, SECONDS)


class Separate(unittest.TestCase):
    """Point 2."""

    def test_passed_lists(self):
        links = list(LINKS)
        web = Web(9, links)
        live = [7, 6, 5, 4]
        web.loose(live)
        self.assertEqual((links, live), (LINKS, [7, 6, 5, 4]))
        links.clear()
        self.assertEqual(web.blocks(), Web(9, LINKS).blocks())

    def test_returned_lists_are_new(self):
        web = Web(9, LINKS)
        for ask in (lambda: web.neighbours(2), lambda: web.loose([4, 5, 6]), lambda: web.pieces(2),
                    lambda: web.sizes(2), web.blocks):
            before = ask()
            spoil(ask())
            self.assertEqual(ask(), before)
        before = web.flaw()
        spoil(web.flaw()[3])
        self.assertEqual(web.flaw(), before)


if __name__ == "__main__":
    unittest.main()
