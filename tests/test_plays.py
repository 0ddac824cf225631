"""Plays: points 53 and 54, with points 2, 3, 9 and 22."""

import random
import time
import unittest

from barebough.boards import Board
from barebough.errors import BadOrder, NothingToUndo, NotLive, NotTip, PlayOver
from barebough.guides import keeper_pluck, raider_pluck
from barebough.plays import Play
from barebough.trees import Tree
from tests.helpers import game_keeps, plain_keeps, random_links, spoil

SECONDS = 5
PATH = [(0, 1), (1, 2), (2, 3)]


def state(play):
    return (play.order(), play.sizes(), play.live(), play.is_over(), play.has_fallen(), play.slips(), list(play))


def slips_by_the_game(tree, cell, turns):
    """Return the slips of a play, by the words of point 54."""
    board = Board(tree)
    stages = [board.sizes(cell)]
    for _, plucked in turns:
        board.pluck(plucked)
        stages.append(None if plucked == cell else board.sizes(cell))
    letters = "".join(letter for letter, _ in turns)
    fates = [sizes is not None and game_keeps(sizes, letters[index:]) for index, sizes in enumerate(stages)]
    found = []
    for index, letter in enumerate(letters):
        if (letter, fates[index], fates[index + 1]) in (("K", True, False), ("R", False, True)):
            found.append((index, letter))
    return found


class Turns(unittest.TestCase):
    """Point 53."""

    def refused(self, play, error, call, *arguments):
        before = state(play)
        with self.assertRaises(error) as caught:
            call(*arguments)
        self.assertEqual(state(play), before)
        return caught.exception

    def test_example(self):
        play = Play(Tree(4, PATH), 1)
        self.assertEqual([play.turn("K", 0), play.turn("R", 3)], [None, None])
        self.assertEqual([play.sizes(), play.slips(), list(play)], [[1], [(0, "K"), (1, "R")], [("K", 0), ("R", 3)]])

    def test_new_play(self):
        play = Play(Tree(4, PATH), 1)
        self.assertEqual(state(play), ("", [2, 1], [0, 1, 2, 3], False, False, [], []))

    def test_turns_one_by_one(self):
        play = Play(Tree(4, PATH), 2)
        play.turn("R", 3)
        self.assertEqual(state(play)[:5], ("R", [2], [0, 1, 2], False, False))
        play.turn("R", 0)
        self.assertEqual(state(play)[:5], ("RR", [1], [1, 2], False, False))
        play.turn("K", 1)
        self.assertEqual(state(play)[:5], ("RRK", [], [2], True, False))
        self.assertEqual(list(play), [("R", 3), ("R", 0), ("K", 1)])

    def test_named_cell_falls(self):
        for letter in ("K", "R"):
            play = Play(Tree(4, PATH), 0)
            play.turn(letter, 0)
            self.assertEqual(state(play)[:5], (letter, None, [1, 2, 3], True, True))
            play.undo()
            self.assertEqual(state(play)[:5], ("", [3], [0, 1, 2, 3], False, False))

    def test_named_cell_falls_at_the_last_turn(self):
        play = Play(Tree(3, [(0, 1), (1, 2)]), 1)
        play.turn("K", 0)
        play.turn("K", 1)
        self.assertEqual(state(play), ("KK", None, [2], True, True, [(1, "K")], [("K", 0), ("K", 1)]))

    def test_play_over_one_cell(self):
        play = Play(Tree(1, []), 0)
        self.assertEqual(state(play), ("", [], [0], True, False, [], []))
        for letter in "KR":
            self.refused(play, PlayOver, play.turn, letter, 0)
            self.refused(play, PlayOver, play.advice, letter)
        self.refused(play, NothingToUndo, play.undo)

    def test_bad_letters(self):
        over = Play(Tree(2, [(0, 1)]), 0)
        over.turn("K", 1)
        for play in (Play(Tree(4, PATH), 1), over, Play(Tree(1, []), 0)):
            for letter in ("", "k", "r", "KR", "KK", "RK", " ", "K ", "?", "0"):
                # The letter comes ahead of the play that is over and of the cell.
                self.assertEqual(self.refused(play, BadOrder, play.turn, letter, 0).index, 0)
                self.assertEqual(self.refused(play, BadOrder, play.advice, letter).index, 0)

    def test_play_over_comes_ahead_of_the_errors_of_pluck(self):
        fallen = Play(Tree(4, PATH), 0)
        fallen.turn("R", 0)
        last = Play(Tree(4, PATH), 1)
        for cell in (0, 3, 2):
            last.turn("K", cell)
        for play in (fallen, last):
            for cell in range(4):
                self.refused(play, PlayOver, play.turn, "K", cell)
                self.refused(play, PlayOver, play.turn, "R", cell)
            self.refused(play, PlayOver, play.advice, "K")
            self.refused(play, PlayOver, play.advice, "R")

    def test_errors_of_pluck(self):
        play = Play(Tree(4, PATH), 2)
        self.assertEqual(self.refused(play, NotTip, play.turn, "K", 1).cell, 1)
        self.assertEqual(self.refused(play, NotTip, play.turn, "R", 2).cell, 2)
        play.turn("K", 0)
        self.assertEqual(self.refused(play, NotLive, play.turn, "R", 0).cell, 0)

    def test_undo(self):
        play = Play(Tree(4, PATH), 1)
        self.refused(play, NothingToUndo, play.undo)
        play.turn("K", 3)
        self.assertEqual(play.undo(), ("K", 3))
        self.refused(play, NothingToUndo, play.undo)
        self.assertEqual(state(play), ("", [2, 1], [0, 1, 2, 3], False, False, [], []))

    def test_undo_turn_by_turn_to_the_start(self):
        rng = random.Random(53)
        for _ in range(60):
            size = rng.randint(1, 9)
            play = Play(Tree(size, random_links(rng, size)), rng.randrange(size))
            states = [state(play)]
            while not play.is_over():
                play.turn(rng.choice("KR"), rng.choice(self.allowed(play, size)))
                states.append(state(play))
            turns = list(play)
            while turns:
                self.assertEqual(state(play), states.pop())
                self.assertEqual(play.undo(), turns.pop())
            self.assertEqual([state(play)], states)
            self.refused(play, NothingToUndo, play.undo)

    def allowed(self, play, size):
        """Return the cells whose pluck the play does not refuse."""
        found = []
        for cell in range(size):
            try:
                play.turn("K", cell)
                play.undo()
                found.append(cell)
            except (NotTip, NotLive):
                pass
        return found

    def test_undo_after_the_end_and_other_turns(self):
        play = Play(Tree(3, [(0, 1), (1, 2)]), 1)
        play.turn("R", 0)
        play.turn("R", 1)
        self.assertEqual((play.is_over(), play.undo(), play.is_over()), (True, ("R", 1), False))
        play.turn("K", 2)
        self.assertEqual(state(play)[:5], ("RK", [], [1], True, False))
        self.assertEqual([play.undo(), play.undo()], [("K", 2), ("R", 0)])
        self.assertEqual(state(play)[:5], ("", [1, 1], [0, 1, 2], False, False))

    def test_advice(self):
        rng = random.Random(530)
        for _ in range(60):
            size = rng.randint(2, 10)
            tree = Tree(size, random_links(rng, size))
            cell = rng.randrange(size)
            play, board = Play(tree, cell), Board(tree)
            while not play.is_over():
                before = state(play)
                self.assertEqual(play.advice("K"), keeper_pluck(board, cell))
                self.assertEqual(play.advice("R"), raider_pluck(board, cell))
                self.assertEqual(state(play), before)
                letter, tip = rng.choice("KR"), rng.choice(board.tips())
                play.turn(letter, tip)
                board.pluck(tip)

    def test_advice_on_a_path(self):
        play = Play(Tree(4, PATH), 1)
        self.assertEqual([play.advice("K"), play.advice("R")], [3, 0])
        play.turn("R", 0)
        self.assertEqual([play.advice("K"), play.advice("R")], [3, 1])

    def test_iterating(self):
        play = Play(Tree(5, [(0, 1), (0, 2), (0, 3), (0, 4)]), 0)
        self.assertEqual([turn for turn in play], [])
        for letter, cell in (("K", 3), ("R", 1), ("K", 4)):
            play.turn(letter, cell)
        self.assertEqual([(cell, letter) for letter, cell in play], [(3, "K"), (1, "R"), (4, "K")])
        self.assertEqual(list(play), list(play))
        self.assertEqual({type(turn) for turn in play}, {tuple})
        self.assertIn(("R", 1), play)

    def test_plays_are_separate(self):
        tree = Tree(4, PATH)
        first, second = Play(tree, 1), Play(tree, 1)
        first.turn("K", 0)
        self.assertEqual((second.live(), second.order(), tree.links()), ([0, 1, 2, 3], "", PATH))
        second.turn("K", 0)
        self.assertEqual(state(first), state(second))

    def test_returned_lists_are_new(self):
        play = Play(Tree(4, PATH), 1)
        play.turn("K", 0)
        play.turn("R", 3)
        for call in (play.sizes, play.live, play.slips, lambda: list(play)):
            before = repr(call())
            spoil(call())
            self.assertEqual(repr(call()), before)
        spoil(play.sizes())
        play.undo()
        self.assertEqual((play.sizes(), play.slips()), ([2], []))


class Slips(unittest.TestCase):
    """Point 54."""

    def test_named_cell_plucked_by_keeper(self):
        play = Play(Tree(3, [(0, 1), (1, 2)]), 0)
        play.turn("K", 0)
        self.assertEqual(play.slips(), [(0, "K")])

    def test_named_cell_plucked_by_raider_is_no_slip_of_raider(self):
        play = Play(Tree(3, [(0, 1), (1, 2)]), 0)
        play.turn("R", 0)
        self.assertEqual(play.slips(), [])

    def test_later_turns_judge_earlier_ones_anew(self):
        play = Play(Tree(4, PATH), 1)
        play.turn("K", 0)
        self.assertEqual(play.slips(), [])
        play.turn("R", 3)
        self.assertEqual(play.slips(), [(0, "K"), (1, "R")])
        play.undo()
        self.assertEqual(play.slips(), [])
        play.turn("K", 3)
        self.assertEqual(play.slips(), [])
        play.turn("R", 2)
        self.assertEqual(play.slips(), [(2, "R")])

    def test_after_each_turn_and_each_undo_by_the_game(self):
        rng = random.Random(54)
        seen = set()
        for _ in range(120):
            size = rng.randint(2, 9)
            tree = Tree(size, random_links(rng, size))
            cell = rng.randrange(size)
            play, board = Play(tree, cell), Board(tree)
            while not play.is_over() or rng.random() < 0.8:
                if play.is_over() or (list(play) and rng.random() < 0.25):
                    self.assertEqual(play.undo()[1], board.restore())
                else:
                    tip = rng.choice(board.tips())
                    play.turn(rng.choice("KR"), tip)
                    board.pluck(tip)
                slips = play.slips()
                seen.add(len(slips))
                self.assertEqual(slips, slips_by_the_game(tree, cell, list(play)))
                self.check_laws(tree, cell, play, slips)
                if not list(play) and rng.random() < 0.5:
                    break
        self.assertTrue({0, 1, 2, 3} <= seen)

    def check_laws(self, tree, cell, play, slips):
        letters = [letter for _, letter in slips]
        self.assertTrue(all(one != other for one, other in zip(letters, letters[1:])))
        kept = plain_keeps(tree.sizes(cell), play.order())
        self.assertIs(kept != play.has_fallen(), len(slips) % 2 == 0)
        self.assertEqual({type(slip) for slip in slips} - {tuple}, set())

    def test_guides_never_slip(self):
        rng = random.Random(540)
        for _ in range(40):
            size = rng.randint(2, 14)
            play = Play(Tree(size, random_links(rng, size)), rng.randrange(size))
            while not play.is_over():
                letter = rng.choice("KKR")
                play.turn(letter, play.advice(letter))
                self.assertEqual(play.slips(), [])

    def test_two_hundred_cells_within_seconds(self):
        start = time.monotonic()
        tree = Tree(200, random_links(random.Random(200), 200))
        cell = min(range(200), key=lambda one: tree.sizes(one)[0])
        play = Play(tree, cell)
        for letter in "KRR" * 66 + "K":
            if not play.is_over():
                play.turn(letter, play.advice(letter))
        self.assertEqual(play.slips(), [])
        path = Play(Tree(200, [(k, k + 1) for k in range(199)]), 100)
        for turn in range(99):
            path.turn("K", turn)
        # Without a turn of Raider the cell is kept whatever Keeper has plucked.
        self.assertEqual((path.sizes(), path.slips()), ([99, 1], []))
        path.turn("R", 199)
        path.turn("R", 99)
        # Keeper should have spared the cell 98, and Raider should have plucked the cell 99 first.
        self.assertEqual((path.sizes(), path.slips()), ([98], [(98, "K"), (99, "R")]))
        self.assertLess(time.monotonic() - start, SECONDS)


if __name__ == "__main__":
    unittest.main()
