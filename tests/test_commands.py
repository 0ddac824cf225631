"""Commands: points 84 and 85, with points 2 and 11."""

import unittest

from barebough.commands import split_line
from barebough.errors import BadCommand
from tests.helpers import spoil

# Good lines, one for each command and more, with the words behind the command as the table calls them.
GOOD = [
    ("tree oak 3 0-1 1-2", "NAME LINE"),
    ("script w K[R|K]{1:2}", "NAME TEXT"),
    ("chain all w v", "NAME SCRIPT SCRIPT"),
    ("graft oak 2", "TREE CELL"),
    ("pluck oak 0", "TREE CELL"),
    ("move oak 10 199", "TREE CELL CELL"),
    ("drop oak", "NAME"),
    ("show abcdefgh", "NAME"),
    ("sizes oak 999", "TREE CELL"),
    ("row w", "SCRIPT"),
    ("fate oak 4 w", "TREE CELL SCRIPT"),
    ("cells oak w", "TREE SCRIPT"),
    ("compare oak 1 1", "TREE CELL CELL"),
    ("region oak w 7", "TREE SCRIPT CELL"),
    ("region oak w 7 8 9 7 100", "TREE SCRIPT CELL CELL CELL CELL CELL"),
]
BAD_NAMES = ["", "abcdefghi", "Oak", "OAK", "oAk", "o1", "1", "o-k", "o_k", "oak.", "[", "K"]
BAD_NUMBERS = ["", "1000", "0000", "01", "00", "007", "-1", "+1", "-0", "1.", "x", "1x", "x1", "1-2", "0x1"]


class Case(unittest.TestCase):
    def check_bad(self, line, word):
        with self.assertRaises(BadCommand, msg=line) as caught:
            split_line(line)
        self.assertEqual(caught.exception.word, word, line)


class RightWords(Case):
    def test_every_command(self):
        for line, _ in GOOD:
            if not line.startswith("tree"):
                self.assertEqual(split_line(line), line.split(" "))
        self.assertEqual({line.split(" ")[0] for line, _ in GOOD},
                         set("tree script chain graft pluck move drop show sizes row fate cells compare region".split()))

    def test_the_text_of_a_tree_is_one_word(self):
        for text in ("3 0-1 1-2", "1", "", " ", "  ", " 1", "1 ", "3  0-1", "x", "tree oak 1"):
            self.assertEqual(split_line("tree oak " + text), ["tree", "oak", text])

    def test_the_text_of_a_script_is_any_word(self):
        for text in ("K", "{", "[R|", "oak", "1", "K,R", "-"):
            self.assertEqual(split_line("script w " + text), ["script", "w", text])

    def test_names_and_numbers_at_their_edges(self):
        for name in ("a", "z", "az", "abcdefgh", "tree", "none", "zzzzzzzz"):
            self.assertEqual(split_line("drop " + name), ["drop", name])
            self.assertEqual(split_line(f"graft {name} 0"), ["graft", name, "0"])
        for number in ("0", "9", "10", "99", "100", "999"):
            self.assertEqual(split_line("sizes oak " + number), ["sizes", "oak", number])


class Faults(Case):
    def test_no_command(self):
        for line in ("", " ", "  ", "Tree oak 1", "TREE", "oak", "tre oak 1", "trees", "undo", "redo", " tree oak 1",
                     " drop oak", "drop,oak", "0"):
            self.check_bad(line, 0)

    def test_a_bad_word_at_each_place(self):
        for line, told in GOOD:
            words = line.split(" ", 2) if line.startswith("tree") else line.split(" ")
            for index, kind in enumerate(told.split(" ")):
                for bad in {"NAME": BAD_NAMES, "TREE": BAD_NAMES, "SCRIPT": BAD_NAMES, "CELL": BAD_NUMBERS,
                            "TEXT": [""], "LINE": []}[kind]:
                    changed = words[:index + 1] + [bad] + words[index + 2:]
                    self.check_bad(" ".join(changed), index + 1)

    def test_missing_words(self):
        for line, told in GOOD:
            words = line.split(" ", 2) if line.startswith("tree") else line.split(" ")
            needed = 4 if words[0] == "region" else len(words)
            for many in range(1, needed):
                self.check_bad(" ".join(words[:many]), many)

    def test_extra_words(self):
        for line, told in GOOD:
            words = line.split(" ")
            if words[0] not in ("tree", "region"):
                for more in (["oak"], ["1"], ["K", "K"], [""], ["", ""], ["", "oak"]):
                    self.check_bad(" ".join(words + more), len(words))

    def test_blanks(self):
        # At the start, at the end and two in a row.
        self.check_bad(" graft oak 1", 0)
        self.check_bad("graft oak 1 ", 3)
        self.check_bad("graft  oak 1", 1)
        self.check_bad("graft oak  1", 2)
        self.check_bad("graft ", 1)
        self.check_bad("graft oak ", 2)
        self.check_bad("tree ", 1)
        self.check_bad("tree  oak 1", 1)
        self.check_bad("tree oak", 2)
        self.check_bad("script w ", 2)
        self.check_bad("script w  K", 2)
        self.check_bad("script w K ", 3)
        self.check_bad("region oak w ", 3)
        self.check_bad("region oak w 1 ", 4)
        self.check_bad("region oak w 1  2", 4)

    def test_a_bad_word_ahead_of_missing_and_of_extra_words(self):
        self.check_bad("graft Oak", 1)
        self.check_bad("move oak x", 2)
        self.check_bad("fate oak x", 2)
        self.check_bad("fate Oak x", 1)
        self.check_bad("region Oak", 1)
        self.check_bad("region oak W", 2)
        self.check_bad("chain a B", 2)
        self.check_bad("script W", 1)
        self.check_bad("graft oak x 1", 2)
        self.check_bad("drop Oak oak", 1)
        self.check_bad("script w  ", 2)
        self.check_bad("row W w w", 1)

    def test_a_bad_word_behind_them(self):
        self.check_bad("drop oak Oak", 2)
        self.check_bad("graft oak 1 X X", 3)
        self.check_bad("script w K ", 3)
        self.check_bad("cells oak w -1", 3)
        # In these lines the first word that is due is missing, and what stands there is bad.
        self.check_bad("fate oak w", 2)
        self.check_bad("graft 1", 1)
        self.check_bad("region oak 1", 2)

    def test_cells_that_are_repeated(self):
        for index, bad in ((3, "x"), (4, "01"), (5, ""), (6, "1000"), (8, "-1")):
            words = ["region", "oak", "w", "1", "2", "3", "4", "5", "6"]
            words[index] = bad
            self.check_bad(" ".join(words), index)


class Separate(Case):
    """Point 2."""

    def test_returned_lists_are_new(self):
        for line, _ in GOOD:
            before = split_line(line)
            spoil(split_line(line))
            self.assertEqual(split_line(line), before)


if __name__ == "__main__":
    unittest.main()
