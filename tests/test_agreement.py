"""Fates that several parts of the program tell agree, and the examples of the document hold.

Points 1 to 3, with 22, 30, 41, 43, 45, 52, 53, 61, 63, 67, 75, 80 and 86.
"""

import random
import re
import unittest
from pathlib import Path

from barebough.certificates import bad_line, certificate
from barebough.desk import Desk
from barebough.errors import BoughError
from barebough.fates import hour, kept, kept_cells
from barebough.listings import KeptLists
from barebough.notation import format_tree
from barebough.plays import Play
from barebough.reading import parse_script
from barebough.regions import region_fate
from barebough.rows import fits, pull
from barebough.spread import keeping_some, spread
from barebough.trees import Tree
from barebough.webs import Web, web_kept
from barebough.woods import Wood, wood_kept
from tests.games import Game, shapes
from tests.helpers import orders, random_links

DOCUMENT = Path(__file__).resolve().parent.parent.parent / "shared" / "DOC.md"


class Fates(unittest.TestCase):
    def told(self, tree, order):
        """Return for each part of the program the cells that are kept under a full order."""
        links = tree.links()
        script = parse_script(order)
        wood, web = Wood(tree.size, links, [1] * tree.size), Web(tree.size, links)
        lists = KeptLists(order) if len(order) <= 14 else None
        cells = range(tree.size)
        found = {
            "kept": [cell for cell in cells if kept(tree.sizes(cell), order)],
            "row": [cell for cell in cells if fits(tree.sizes(cell), pull(order))],
            "hour": [cell for cell in cells if hour(tree.sizes(cell), order) is None],
            "script": [cell for cell in cells if script.keeps(tree.sizes(cell))],
            "run": [cell for cell in cells if script.losing_run(tree.sizes(cell)) is None],
            "region": [cell for cell in cells if region_fate(tree, [cell], order) == "held"],
            "stripped": [cell for cell in cells if region_fate(tree, [cell], order) != "stripped"],
            "wood": [cell for cell in cells if wood_kept(wood, cell, order)],
            "web": [cell for cell in cells if web_kept(web, cell, order)],
            "certificate": [cell for cell in cells if certificate(tree.sizes(cell), order)[0] == "kept"],
            "play": [cell for cell in cells if self.play_keeps(tree, cell, order)],
            "kept cells": kept_cells(tree, order),
        }
        if lists is not None:
            found["lists"] = [cell for cell in cells if tree.sizes(cell) in lists]
        found.update(self.told_by_desk(tree, order))
        return found

    def play_keeps(self, tree, cell, order):
        play = Play(tree, cell)
        for letter in order:
            if play.is_over():
                break
            play.turn(letter, play.advice(letter))
        return not play.has_fallen()

    def told_by_desk(self, tree, order):
        desk = Desk()
        desk.run("tree t " + format_tree(tree))
        if not order:
            return {}
        desk.run("script s " + order)
        answer = desk.run("cells t s")
        cells = range(tree.size)
        return {
            "desk cells": [] if answer == "none" else [int(word) for word in answer.split(" ")],
            "desk fate": [cell for cell in cells if desk.run(f"fate t {cell} s") == "kept"],
            "desk region": [cell for cell in cells if desk.run(f"region t s {cell}") == "held"],
        }

    def check(self, tree, order):
        found = self.told(tree, order)
        for part, cells in found.items():
            self.assertEqual(cells, found["kept cells"], (part, tree.links(), order))
        for cell in range(tree.size):
            shown = certificate(tree.sizes(cell), order)
            self.assertIsNone(bad_line(tree.sizes(cell), order, shown))
        return found["kept cells"]

    def test_small_trees_against_the_whole_game(self):
        for size in range(1, 6):
            for links in shapes(size):
                game = Game(size, links)
                wins = [game.solver(lambda live, one=cell: one in live) for cell in range(size)]
                for order in orders(size - 1):
                    told = [cell for cell in range(size) if wins[cell](order)]
                    self.assertEqual(self.check(Tree(size, links), order), told)

    def test_drawn_trees(self):
        rng = random.Random(1)
        for size in [6, 7, 8, 10, 13, 15, 24] * 6:
            order = "".join(rng.choice("KR") for _ in range(size - 2)) + "K"
            self.check(Tree(size, random_links(rng, size)), order)

    def test_counts_of_all_orders(self):
        for size in range(1, 8):
            for links in shapes(size):
                tree = Tree(size, links)
                told = [kept_cells(tree, order) for order in orders(size - 1)]
                self.assertEqual(spread(tree), [sum(cell in cells for cells in told) for cell in range(size)])
                self.assertEqual(keeping_some(tree), sum(bool(cells) for cells in told))

    def test_shorter_orders(self):
        rng = random.Random(2)
        for _ in range(80):
            size = rng.randint(2, 12)
            tree = Tree(size, random_links(rng, size))
            order = "".join(rng.choice("KRR") for _ in range(rng.randint(1, size - 1)))
            cells = kept_cells(tree, order)
            script, web = parse_script(order), Web(size, tree.links())
            self.assertEqual([cell for cell in range(size) if kept(tree.sizes(cell), order)], cells)
            self.assertEqual([cell for cell in range(size) if script.keeps(tree.sizes(cell))], cells)
            self.assertEqual([cell for cell in range(size) if web_kept(web, cell, order)], cells)
            self.assertEqual([cell for cell in range(size) if self.play_keeps(tree, cell, order)], cells)
            told = self.told_by_desk_alone(tree, order)
            self.assertEqual(told, " ".join(map(str, cells)) or "none")

    def told_by_desk_alone(self, tree, order):
        desk = Desk()
        return desk.run_all(["tree t " + format_tree(tree), "script s " + order, "cells t s"])[-1]


class Document(unittest.TestCase):
    """All examples of the document, run as they stand there."""

    @unittest.skipUnless(DOCUMENT.exists(), "the document is not here")
    def test_examples(self):
        blocks = re.findall(r"\n```\n(.*?)```", DOCUMENT.read_text(encoding="utf-8"), re.DOTALL)
        examples = [part.strip() for block in blocks for part in block.split("\n\n") if part.startswith(">>>")]
        self.assertGreaterEqual(len(examples), 25)
        for example in examples:
            *commands, answer = example.split("\n")
            self.run_example([line[4:] for line in commands], answer)

    def run_example(self, commands, answer):
        names = {}
        for line in commands[:-1]:
            exec(line, names)
        try:
            found = repr(eval(commands[-1], names))
        except BoughError as error:
            words = ", ".join(str(value) for value in vars(error).values())
            found = f"raises {type(error).__name__}({words})"
        self.assertEqual(found, answer, commands)


if __name__ == "__main__":
    unittest.main()
