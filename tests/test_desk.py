"""Desks: points 86 to 89, with points 2, 3, 7, 10, 11, 31, 37 to 43, 45, 67 and 84."""

import random
import time
import unittest

from barebough.desk import Desk, replay
from barebough.errors import (BadCommand, BadText, BadTree, BatchRefused, BoughError, LastCell, NameTaken,
                              NothingToRedo, NothingToUndo, NotRegion, NotTip, OutOfRange, TooLarge, UnevenChoice,
                              UnknownName, WrongKind, WrongLength)
from barebough.notation import format_tree, parse_tree
from barebough.reading import parse_script
from barebough.regions import region_fate
from barebough.trees import Tree
from tests.games import large_trees
from tests.helpers import plain_keeps, random_links, safe, spoil

SECONDS = 5
START = ["tree oak 5 0-1 1-2 2-3 3-4", "tree ash 4 3-0 3-1 3-2", "tree one 1", "script w KRRK", "script k K",
         "script c [KR|RK]K", "script d {1:2}", "script e K{1:2}RRK", "script long 99K99R"]
QUESTIONS = ["show oak", "show ash", "show one", "show w", "show c", "show d", "show x", "sizes oak 2", "sizes oak 4",
             "sizes one 0", "row w", "row d", "fate oak 2 w", "fate oak 1 c", "cells oak w", "cells ash c",
             "compare oak 0 2", "region oak w 1 2", "region oak e 1"]


def desk_with(*lines):
    desk = Desk()
    desk.run_all(START + list(lines))
    return desk


def ask(desk, line):
    """Return the answer to a line, or what its error tells."""
    try:
        return desk.run(line)
    except BoughError as error:
        return type(error).__name__, sorted(vars(error).items())


def look(desk):
    """Return all that can be seen of a desk without changing it."""
    return desk.journal(), list(desk), desk.names(), [ask(desk, line) for line in QUESTIONS]


class Case(unittest.TestCase):
    def check(self, desk, line, error, **attributes):
        """Tell whether the line is refused with this error, and leaves the desk as it was."""
        before = look(desk)
        with self.assertRaises(error, msg=line) as caught:
            desk.run(line)
        self.assertIs(type(caught.exception), error, line)
        self.assertEqual(vars(caught.exception), attributes, line)
        self.assertEqual(look(desk), before)


class Answers(Case):
    """Points 84 and 86: every command and its answer."""

    def test_examples(self):
        desk = Desk()
        self.assertEqual(desk.run_all(START[:1] + ["script w KRRK", "fate oak 2 w"]),
                         ["5 0-1 1-2 2-3 3-4", "KRRK", "lost KRRK"])
        desk = Desk()
        desk.run("tree oak 3 0-1 1-2")
        second = desk.run("graft oak 1")
        third = desk.undo()
        self.assertEqual([second, third, desk.run("show oak"), desk.journal()],
                         ["4 0-1 1-2 1-3", "graft oak 1", "3 0-1 1-2", ["tree oak 3 0-1 1-2"]])
        with self.assertRaises(BatchRefused) as caught:
            Desk().run_all(["tree oak 2 0-1", "pluck elm 1"])
        self.assertEqual(caught.exception.index, 1)

    def test_definitions(self):
        desk = Desk()
        self.assertEqual(desk.run("tree oak 4 3-1 1-0 2-1"), "4 0-1 1-2 1-3")
        self.assertEqual(desk.run("tree one 1"), "1")
        self.assertEqual(desk.run("script w 2(K[R|K{1:2}])R"), "2(K[R|K{1:2}])R")
        self.assertEqual(desk.run("script k K"), "K")
        self.assertEqual(desk.run("chain both w k"), "2(K[R|K{1:2}])RK")
        self.assertEqual(desk.run("chain twice k k"), "KK")
        self.assertEqual([desk.run("show " + name) for name in ("oak", "one", "w", "both", "twice")],
                         ["4 0-1 1-2 1-3", "1", "2(K[R|K{1:2}])R", "2(K[R|K{1:2}])RK", "KK"])

    def test_edits(self):
        desk = Desk()
        desk.run("tree oak 3 0-1 1-2")
        self.assertEqual(desk.run("graft oak 2"), "4 0-1 1-2 2-3")
        self.assertEqual(desk.run("move oak 0 2"), "4 0-2 1-2 2-3")
        self.assertEqual(desk.run("pluck oak 1"), "3 0-1 1-2")
        self.assertEqual(desk.run("show oak"), "3 0-1 1-2")
        self.assertEqual(desk.run("pluck oak 2"), "2 0-1")
        self.assertEqual(desk.run("drop oak"), "oak")
        self.assertEqual(desk.names(), [])
        # A dropped name may stand for something else.
        self.assertEqual(desk.run("script oak RK"), "RK")
        self.assertEqual(desk.names(), [("oak", "script")])

    def test_sizes_and_row(self):
        desk = desk_with()
        self.assertEqual([desk.run(f"sizes oak {cell}") for cell in range(5)], ["4", "3 1", "2 2", "3 1", "4"])
        self.assertEqual([desk.run("sizes ash 3"), desk.run("sizes one 0")], ["1 1 1", "none"])
        self.assertEqual([desk.run("row " + name) for name in ("w", "k", "c", "d", "e")],
                         ["2 3 4 4", "1", "2 3 3", "none", "2 3 4 4"])

    def test_fate(self):
        desk = desk_with("script s [KR|RK]{1:1}K", "tree pair 4 0-1 1-2 2-3")
        self.assertEqual([desk.run(f"fate oak {cell} w") for cell in range(5)], ["lost KRRK"] * 5)
        self.assertEqual([desk.run(f"fate oak {cell} s") for cell in range(5)],
                         ["lost KR{1:1}K"] * 5)
        self.assertEqual([desk.run(f"fate pair {cell} c") for cell in range(4)],
                         ["lost KRK", "kept", "kept", "lost KRK"])
        self.assertEqual([desk.run(f"fate ash {cell} k") for cell in range(4)], ["kept"] * 4)
        self.assertEqual(desk.run("fate one 0 d"), "kept")
        self.assertEqual([desk.run("fate oak 0 d"), desk.run("fate oak 2 d")], ["lost {1:2}", "kept"])

    def test_cells(self):
        desk = desk_with()
        self.assertEqual([desk.run("cells oak " + name) for name in ("w", "k", "c", "d", "e")],
                         ["none", "0 1 2 3 4", "1 2 3", "2", "none"])
        self.assertEqual([desk.run("cells ash " + name) for name in ("k", "c", "d")], ["0 1 2 3", "3", "3"])
        self.assertEqual(desk.run("cells one d"), "0")

    def test_compare(self):
        desk = desk_with("tree two 13 0-2 2-3 3-4 0-5 5-6 6-7 0-1 1-8 1-9 1-10 1-11 1-12")
        self.assertEqual([desk.run("compare oak " + cells) for cells in ("1 3", "2 2", "2 1", "1 2", "0 4", "4 1")],
                         ["alike", "alike", "first", "second", "alike", "second"])
        self.assertEqual([desk.run("compare two " + cells) for cells in ("0 1", "1 0", "0 2")],
                         ["neither", "neither", "first"])
        self.assertEqual(desk.run("compare one 0 0"), "alike")

    def test_region(self):
        desk = desk_with("script r 3RK", "script o R2KR", "script g 2(KR)")
        self.assertEqual([desk.run("region oak w 1 2"), desk.run("region oak r 1 2"), desk.run("region oak o 2 1")],
                         ["held", "stripped", "open"])
        self.assertEqual([desk.run("region oak w 0 1 2 3 4"), desk.run("region oak g 2")], ["held", "stripped"])

    def test_drawn_desks_against_the_functions(self):
        rng = random.Random(86)
        for _ in range(60):
            size = rng.randint(1, 9)
            tree = Tree(size, random_links(rng, size))
            order = "".join(rng.choice("KRK") for _ in range(rng.randint(1, 9)))
            desk = Desk()
            desk.run_all(["tree t " + format_tree(tree), "script s " + order])
            for cell in range(size):
                sizes = tree.sizes(cell)
                self.assertEqual(desk.run(f"sizes t {cell}"), " ".join(map(str, sizes)) or "none")
                if len(order) < size:
                    told = "kept" if plain_keeps(sizes, order) else "lost " + order
                    self.assertEqual(desk.run(f"fate t {cell} s"), told)
                other = rng.randrange(size)
                self.assertEqual(desk.run(f"compare t {cell} {other}"), self.compared(sizes, tree.sizes(other)))
            if len(order) < size:
                cells = [cell for cell in range(size) if plain_keeps(tree.sizes(cell), order)]
                self.assertEqual(desk.run("cells t s"), " ".join(map(str, cells)) or "none")
            if len(order) == size - 1:
                region = list(range(size))
                self.assertEqual(desk.run("region t s " + " ".join(map(str, region))), region_fate(tree, region, order))

    def compared(self, first, second):
        if first == second:
            return "alike"
        return "first" if safe(first, second) else "second" if safe(second, first) else "neither"


class Refusals(Case):
    """Point 86: the errors and their order."""

    def test_bad_command_comes_first(self):
        desk = desk_with()
        self.check(desk, "", BadCommand, word=0)
        self.check(desk, "undo", BadCommand, word=0)
        self.check(desk, "graft elm x", BadCommand, word=2)
        self.check(desk, "chain oak elm", BadCommand, word=3)
        self.check(desk, "move w 9 9 9", BadCommand, word=4)
        self.check(desk, "region w oak 7 7 x", BadCommand, word=5)
        self.check(desk, "tree oak", BadCommand, word=2)

    def test_name_taken(self):
        desk = desk_with()
        # Ahead of a bad text, of unknown names and of names of the wrong kind.
        self.check(desk, "tree oak 1", NameTaken, name="oak")
        self.check(desk, "tree w x x", NameTaken, name="w")
        self.check(desk, "tree oak ", NameTaken, name="oak")
        self.check(desk, "script oak }", NameTaken, name="oak")
        self.check(desk, "script w K", NameTaken, name="w")
        self.check(desk, "chain w elm oak", NameTaken, name="w")
        self.check(desk, "chain oak w w", NameTaken, name="oak")

    def test_unknown_name(self):
        desk = desk_with()
        for line in ("graft elm 0", "pluck elm 9", "move elm 9 9", "drop elm", "show elm", "sizes elm 9", "row elm",
                     "fate elm 9 w", "fate elm 9 oak", "cells elm w", "cells elm oak", "compare elm 9 9",
                     "region elm c 9 9", "region elm oak 0"):
            self.check(desk, line, UnknownName, name="elm")
        self.check(desk, "chain new elm fir", UnknownName, name="elm")
        self.check(desk, "chain new w fir", UnknownName, name="fir")
        self.check(desk, "chain new elm oak", UnknownName, name="elm")
        self.check(desk, "fate oak 9 fir", UnknownName, name="fir")
        self.check(desk, "cells oak fir", UnknownName, name="fir")
        self.check(desk, "region oak fir 9 9", UnknownName, name="fir")
        # A name that the line itself is to define does not count.
        self.check(desk, "chain new new w", UnknownName, name="new")

    def test_wrong_kind(self):
        desk = desk_with()
        for line in ("graft w 9", "pluck w 9", "move w 9 9", "sizes w 9", "fate w 9 oak", "fate w 9 fir", "cells w oak",
                     "compare w 9 9", "region w oak 9 9", "region w c 9"):
            self.check(desk, line, WrongKind, name="w")
        for line in ("row oak", "chain new oak w", "chain new oak fir", "fate ash 9 oak",
                     "cells ash oak", "region ash oak 9 9"):
            self.check(desk, line, WrongKind, name="oak")
        self.check(desk, "chain new w oak", WrongKind, name="oak")

    def test_out_of_range(self):
        desk = desk_with()
        for line, cell in (("graft oak 5", 5), ("pluck oak 999", 999), ("move oak 5 6", 5), ("move oak 0 7", 7),
                           ("move oak 9 9", 9), ("sizes oak 5", 5), ("fate oak 5 w", 5), ("compare oak 0 5", 5),
                           ("compare oak 8 5", 8), ("region oak w 0 1 5 6", 5), ("sizes one 1", 1)):
            self.check(desk, line, OutOfRange, value=cell)
        # Equal numbers, in move and region alone.
        self.check(desk, "move oak 4 4", OutOfRange, value=4)
        self.check(desk, "move oak 2 2", OutOfRange, value=2)
        self.check(desk, "region oak w 1 2 1", OutOfRange, value=1)
        self.check(desk, "region oak w 1 2 2 9", OutOfRange, value=2)
        self.check(desk, "region oak w 1 9 1 2", OutOfRange, value=9)
        self.assertEqual(desk.run("compare oak 3 3"), "alike")

    def test_a_script_of_region_that_is_not_plain(self):
        desk = desk_with("script u [K|K]RRK", "script f 2(K[R|R])")
        for name in ("c", "d", "e", "u", "f"):
            self.check(desk, f"region oak {name} 0 1", WrongKind, name=name)
            # Behind the numbers, and ahead of the faults of the region and of the order.
            self.check(desk, f"region oak {name} 0 9", OutOfRange, value=9)
            self.check(desk, f"region oak {name} 0 0", OutOfRange, value=0)
            self.check(desk, f"region oak {name} 0 2", WrongKind, name=name)
            self.check(desk, f"region ash {name} 0", WrongKind, name=name)
        desk.run("script p 2((K)R)")
        self.assertEqual(desk.run("region oak p 0 1 2"), region_fate(parse_tree("5 0-1 1-2 2-3 3-4"), [0, 1, 2], "KRKR"))

    def test_region(self):
        desk = desk_with()
        self.check(desk, "region oak w 0 2", NotRegion, pieces=2)
        self.check(desk, "region oak k 0 2 4", NotRegion, pieces=3)
        self.check(desk, "region oak k 0 1", WrongLength, given=1, needed=4)
        self.check(desk, "region ash w 0", WrongLength, given=4, needed=3)

    def test_texts(self):
        desk = desk_with()
        self.check(desk, "tree new ", BadText, position=0)
        self.check(desk, "tree new  1", BadText, position=0)
        self.check(desk, "tree new 3 0-1  1-2", BadText, position=6)
        self.check(desk, "tree new 3 0-1 ", BadText, position=6)
        self.check(desk, "tree new 0", BadText, position=0)
        self.check(desk, "tree new 201", BadText, position=0)
        self.check(desk, "tree new 3 0-1 1-0 1-2", BadTree, index=1)
        self.check(desk, "tree new 3 0-1", BadTree, index=1)
        self.check(desk, "script new KX", BadText, position=1)
        self.check(desk, "script new K[R]", BadText, position=3)
        self.check(desk, "script new K[R|KR]", UnevenChoice, position=1)
        self.check(desk, "script new 99(KRKRK)", TooLarge, count=495)
        self.check(desk, "script new 99K99K2K", TooLarge, count=200)

    def test_edits(self):
        desk = desk_with()
        self.check(desk, "pluck one 0", LastCell, cell=0)
        self.check(desk, "pluck oak 1", NotTip, cell=1)
        self.check(desk, "move oak 2 4", NotTip, cell=2)
        self.check(desk, "chain new long w", TooLarge, count=202)
        # The text of both is long enough, but neither length is too large.
        self.assertEqual(desk.run("chain new long k"), "99K99RK")

    def test_scripts_with_too_many_turns(self):
        desk = desk_with("script five 5K")
        for line, given, needed in (("fate oak 2 five", 5, 4), ("cells oak five", 5, 4), ("fate one 0 k", 1, 0),
                                    ("cells one k", 1, 0), ("fate ash 0 w", 4, 3), ("cells ash e", 4, 3),
                                    ("cells ash long", 198, 3)):
            self.check(desk, line, WrongLength, given=given, needed=needed)


class Undoing(Case):
    """Point 87."""

    def test_nothing_to_undo_or_redo(self):
        desk = Desk()
        for _ in range(2):
            with self.assertRaises(NothingToUndo):
                desk.undo()
            with self.assertRaises(NothingToRedo):
                desk.redo()
        desk.run("tree oak 1")
        with self.assertRaises(NothingToRedo):
            desk.redo()
        desk.undo()
        with self.assertRaises(NothingToUndo):
            desk.undo()
        self.assertEqual((desk.redo(), desk.run("show oak")), ("tree oak 1", "1"))
        with self.assertRaises(NothingToRedo):
            desk.redo()

    def test_every_change(self):
        desk = desk_with()
        lines = ["tree new 2 0-1", "script v RK", "chain vw v w", "graft oak 2", "pluck oak 0", "move oak 3 0",
                 "drop v", "drop ash", "script ash KK", "drop ash", "tree ash 3 0-2 1-2"]
        looks = [look(desk)]
        for line in lines:
            desk.run(line)
            looks.append(look(desk))
        for line, before in zip(lines[::-1], looks[-2::-1]):
            self.assertEqual(desk.undo(), line)
            self.assertEqual(look(desk), before)
        for line, after in zip(lines, looks[1:]):
            self.assertEqual(desk.redo(), line)
            self.assertEqual(look(desk), after)

    def test_questions_and_refused_lines_leave_redo(self):
        desk = desk_with("graft oak 2", "drop w")
        self.assertEqual([desk.undo(), desk.undo()], ["drop w", "graft oak 2"])
        for line in QUESTIONS + ["", "graft elm 0", "tree oak 1", "pluck oak 2", "sizes oak 9", "tree new 3"]:
            ask(desk, line)
        desk.run_all([])
        desk.run_all(["show oak", "row w"])
        with self.assertRaises(BatchRefused):
            desk.run_all(["show oak", "tree new 2 0-1", "row elm"])
        self.assertEqual([desk.redo(), desk.redo()], ["graft oak 2", "drop w"])

    def test_a_new_change_ends_redo(self):
        for change in (lambda desk: desk.run("tree new 1"), lambda desk: desk.run_all(["show oak", "graft ash 0"])):
            desk = desk_with("graft oak 2", "drop w")
            desk.undo()
            change(desk)
            with self.assertRaises(NothingToRedo):
                desk.redo()
            self.assertEqual(desk.journal()[-2], "graft oak 2")
        # A change that equals the one that was taken back ends it, too.
        desk = desk_with("graft oak 2", "drop w")
        desk.undo()
        desk.undo()
        desk.run("graft oak 2")
        with self.assertRaises(NothingToRedo):
            desk.redo()

    def test_each_line_of_run_all_is_a_change_of_its_own(self):
        desk = Desk()
        desk.run_all(["tree oak 2 0-1", "show oak", "graft oak 1", "sizes oak 0", "graft oak 2"])
        self.assertEqual(desk.journal(), ["tree oak 2 0-1", "graft oak 1", "graft oak 2"])
        self.assertEqual([desk.undo(), desk.run("show oak"), desk.undo(), desk.run("show oak"), desk.undo()],
                         ["graft oak 2", "3 0-1 1-2", "graft oak 1", "2 0-1", "tree oak 2 0-1"])
        self.assertEqual([desk.redo(), desk.redo(), desk.run("show oak")], ["tree oak 2 0-1", "graft oak 1", "3 0-1 1-2"])

    def test_drawn_mixtures_against_kept_looks(self):
        rng = random.Random(87)
        for _ in range(25):
            desk, done, undone = desk_with(), [], []
            for _ in range(40):
                choice = rng.random()
                if choice < 0.3:
                    self.step_back(desk, done, undone)
                elif choice < 0.5:
                    self.step_forth(desk, done, undone)
                else:
                    self.step_on(rng, desk, done, undone)
                self.assertEqual(desk.journal(), START + [line for line, _, _ in done])

    def step_back(self, desk, done, undone):
        if not done:
            return
        line, before, after = done.pop()
        self.assertEqual(desk.undo(), line)
        self.assertEqual(look(desk), before)
        undone.append((line, before, after))

    def step_forth(self, desk, done, undone):
        if not undone:
            with self.assertRaises(NothingToRedo):
                desk.redo()
            return
        line, before, after = undone.pop()
        self.assertEqual(desk.redo(), line)
        self.assertEqual(look(desk), after)
        done.append((line, before, after))

    def step_on(self, rng, desk, done, undone):
        name = rng.choice("abc")
        line = rng.choice([f"tree {name} 2 0-1", f"script {name} KR", f"graft {name} 0", f"pluck {name} 1",
                           f"move {name} 2 0", f"drop {name}", f"chain {name} a b", f"show {name}", "graft oak 2",
                           "cells oak w"])
        before = look(desk)
        answer = ask(desk, line)
        after = look(desk)
        if after[0] != before[0]:
            done.append((line, before, after))
            undone.clear()
        else:
            self.assertEqual(after, before)
        self.assertIs(after[0] != before[0], isinstance(answer, str) and line.split(" ")[0] not in ("show", "cells"))


class Batches(Case):
    """Point 88."""

    def test_answers(self):
        desk = Desk()
        self.assertEqual(desk.run_all([]), [])
        self.assertEqual(desk.run_all(["tree oak 2 0-1", "sizes oak 0", "graft oak 1", "sizes oak 0", "drop oak"]),
                         ["2 0-1", "1", "3 0-1 1-2", "2", "oak"])

    def test_refused_at_the_first_a_middle_and_the_last_line(self):
        good = ["graft oak 2", "tree new 2 0-1", "drop w", "script w RR", "show oak", "drop ash"]
        for bad in ("", "graft elm 0", "tree oak 1", "pluck oak 1", "sizes oak 99", "script q }", "tree q 3 0-1",
                    "region oak c 1", "fate one 0 k", "chain q long long", "pluck one 0", "region oak k 0 2"):
            for place in range(len(good) + 1):
                desk = desk_with("graft ash 0", "drop one")
                desk.undo()
                before = look(desk)
                with self.assertRaises(BatchRefused) as caught:
                    desk.run_all(good[:place] + [bad] + good[place:])
                self.assertEqual(vars(caught.exception), {"index": place})
                self.assertEqual(look(desk), before)
                self.assertEqual((desk.redo(), desk.undo(), desk.undo()), ("drop one", "drop one", "graft ash 0"))
                self.assertEqual(desk.run_all(good)[0], "6 0-1 1-2 2-3 2-5 3-4")

    def test_the_first_refused_line_counts(self):
        with self.assertRaises(BatchRefused) as caught:
            Desk().run_all(["tree oak 1", "drop elm", "drop fir"])
        self.assertEqual(caught.exception.index, 1)

    def test_undo_goes_on_behind_a_refused_batch(self):
        desk = Desk()
        desk.run_all(["tree oak 2 0-1", "graft oak 0", "graft oak 0"])
        desk.undo()
        desk.undo()
        with self.assertRaises(BatchRefused):
            desk.run_all(["graft oak 1", "graft oak 9"])
        self.assertEqual((desk.run("show oak"), desk.journal()), ("2 0-1", ["tree oak 2 0-1"]))
        self.assertEqual([desk.redo(), desk.redo(), desk.run("show oak")], ["graft oak 0", "graft oak 0", "4 0-1 0-2 0-3"])
        self.assertEqual([desk.undo(), desk.undo(), desk.undo()], ["graft oak 0", "graft oak 0", "tree oak 2 0-1"])

    def test_a_line_may_use_what_an_earlier_one_defined(self):
        desk = Desk()
        self.assertEqual(desk.run_all(["script a K", "chain b a a", "drop a", "chain a b b", "row a"])[-1], "4 4 4 4")


class Journals(Case):
    """Point 89."""

    def test_journal_and_iterating(self):
        desk = desk_with()
        self.assertEqual((desk.journal(), list(desk)), (START, START))
        desk.run("show oak")
        ask(desk, "drop elm")
        self.assertEqual(desk.journal(), START)
        desk.run("graft oak 0")
        desk.run("drop w")
        desk.undo()
        self.assertEqual((desk.journal(), [line for line in desk]), (START + ["graft oak 0"],) * 2)
        self.assertEqual((list(Desk()), Desk().journal(), Desk().names()), ([], [], []))
        for first in desk:
            break
        self.assertEqual((first, list(desk)[0]), (START[0], START[0]))

    def test_names(self):
        desk = desk_with()
        self.assertEqual(desk.names(), [("ash", "tree"), ("c", "script"), ("d", "script"), ("e", "script"),
                                        ("k", "script"), ("long", "script"), ("oak", "tree"), ("one", "tree"),
                                        ("w", "script")])
        desk.run_all(["drop oak", "script oak K", "drop d"])
        self.assertEqual([pair for pair in desk.names() if pair[0] in ("d", "oak")], [("oak", "script")])

    def test_replay(self):
        desk = desk_with("graft oak 2", "pluck oak 0", "drop one", "tree x 2 0-1", "chain cc c c", "graft x 1")
        desk.undo()
        second = replay(desk.journal())
        self.assertIsInstance(second, Desk)
        self.assertEqual(look(second), look(desk))
        self.assertEqual((second.undo(), desk.redo()), ("chain cc c c", "graft x 1"))
        with self.assertRaises(BatchRefused) as caught:
            replay(["tree a 1", "show a", "drop b"])
        self.assertEqual(caught.exception.index, 2)
        self.assertEqual(replay([]).journal(), [])
        self.assertEqual(replay(["tree a 1", "show a"]).journal(), ["tree a 1"])

    def test_a_replayed_desk_shares_nothing(self):
        desk = desk_with()
        second = replay(desk.journal())
        before = look(desk)
        second.run_all(["graft oak 0", "drop w", "script w K", "drop one"])
        self.assertEqual(look(desk), before)
        after = look(second)
        desk.undo()
        desk.run("graft oak 4")
        self.assertEqual(look(second), after)

    def test_two_hundred_lines_within_seconds(self):
        rng = random.Random(89)
        texts = [format_tree(Tree(200, links)) for links in large_trees()]
        deep = "[" * 12 + "K" * 28 + "|" + "R" * 28 + "]" + ("|" + "KR" * 14 + "]") * 11
        start = time.monotonic()
        lines = [f"tree t{'abcd'[place]} {text}" for place, text in enumerate(texts)]
        lines += ["script w 99(KR)K", "script deep " + deep]
        self.assertEqual(len(replay(lines).journal()), 6)
        desk = replay(lines)
        names = [chr(97 + k // 26) + chr(97 + k % 26) for k in range(194)]
        desk.run_all([f"tree {name} {rng.choice(texts)}" for name in names])
        self.assertEqual(len(replay(desk.journal()).names()), 200)
        self.assertLess(time.monotonic() - start, SECONDS)
        for line in ("fate ta 100 deep", "cells tc deep", "cells td w", "region ta w 99 100"):
            start = time.monotonic()
            self.assertEqual(len(set(desk.run_all([line] * 200))), 1)
            self.assertLess(time.monotonic() - start, SECONDS)

    def test_a_journal_of_two_hundred_changes(self):
        start = time.monotonic()
        desk = replay(["tree oak 1"] + ["graft oak 0"] * 199)
        self.assertEqual((len(desk.journal()), desk.run("sizes oak 0")), (200, " ".join(["1"] * 199)))
        for _ in range(200):
            desk.undo()
        self.assertEqual((desk.names(), desk.journal()), ([], []))
        for _ in range(200):
            desk.redo()
        self.assertEqual(replay(desk.journal()).run("show oak"), desk.run("show oak"))
        self.assertLess(time.monotonic() - start, SECONDS)


class Separate(Case):
    """Point 2."""

    def test_passed_lists(self):
        lines = ["tree oak 2 0-1", "graft oak 0"]
        desk = Desk()
        desk.run_all(lines)
        second = replay(lines)
        self.assertEqual(lines, ["tree oak 2 0-1", "graft oak 0"])
        lines.clear()
        self.assertEqual((len(desk.journal()), len(second.journal())), (2, 2))

    def test_returned_lists_are_new(self):
        desk = desk_with("graft oak 0")
        before = look(desk)
        spoil(desk.journal())
        spoil(desk.names())
        spoil(desk.run_all(["show oak"]))
        spoil(desk.run_all([]))
        self.assertEqual(look(desk), before)
        self.assertEqual((desk.undo(), desk.run("show oak")), ("graft oak 0", "5 0-1 1-2 2-3 3-4"))

    def test_equal_desks(self):
        self.assertEqual(look(desk_with()), look(desk_with()))


if __name__ == "__main__":
    unittest.main()
