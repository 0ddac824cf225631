"""Desks: trees and scripts by name, worked by command lines."""

from barebough.commands import split_line, word_kinds
from barebough.errors import BatchRefused, BoughError, NameTaken, NothingToRedo, NothingToUndo
from barebough.errors import OutOfRange, UnknownName, WrongKind
from barebough.notation import format_tree, parse_tree
from barebough.reading import parse_script
from barebough.regions import region_fate
from barebough.rows import fits, free_row, need_turns
from barebough.scripts import joined
from barebough.sizes import is_as_safe
from barebough.trees import Tree

_NOTHING = "none"
# The kinds of words that are names of things.
_NAMED = ("name", "tree", "script")


# The functions of the changes and of the questions are passed what the words of a line
# stand for: trees, scripts, numbers, and texts and new names as they are.

def _new_tree(values):
    return parse_tree(values[1])


def _new_script(values):
    return parse_script(values[1])


def _chained(values):
    return joined(values[1], values[2])


def _grafted(values):
    return values[0].grafted(values[1])


def _plucked(values):
    return values[0].plucked(values[1])


def _moved(values):
    return values[0].moved(values[1], values[2])


def _dropped(_):
    return None


def _shown(values):
    return _text_of(values[0])


def _sizes(values):
    return _listed(values[0].sizes(values[1]))


def _row(values):
    return _listed(values[0].row())


def _fate(values):
    run = values[2].losing_run(values[0].sizes(values[1]))
    return "kept" if run is None else "lost " + run


def _cells(values):
    tree, script = values
    need_turns(script.turns, tree.size - 1)
    # All cells have the same sum, so one row decides about all of them.
    row = script.row(goal=free_row(tree.size - 1 - script.turns))
    return _listed([cell for cell, sizes in enumerate(tree.all_sizes()) if fits(sizes, row)])


def _compared(values):
    first, second = values[0].sizes(values[1]), values[0].sizes(values[2])
    if first == second:
        return "alike"
    if is_as_safe(first, second):
        return "first"
    return "second" if is_as_safe(second, first) else "neither"


def _region(values):
    return region_fate(values[0], values[2:], values[1].runs()[0])


_CHANGES = {
    "tree": _new_tree,
    "script": _new_script,
    "chain": _chained,
    "graft": _grafted,
    "pluck": _plucked,
    "move": _moved,
    "drop": _dropped,
}
_QUESTIONS = {
    "show": _shown,
    "sizes": _sizes,
    "row": _row,
    "fate": _fate,
    "cells": _cells,
    "compare": _compared,
    "region": _region,
}


class Desk:
    """Keeps trees and scripts by name, and the changes that led to them."""

    def __init__(self):
        self._things = {}
        # The lines of the changes that are in effect, and for each of them a tuple of the
        # name that it changed, what the name stood for before it, and what behind it.
        self._lines = []
        self._edits = []
        # The changes that have been taken back, as tuples of the line and the edit.
        self._undone = []

    def __iter__(self):
        return iter(self._lines)

    def run(self, line):
        """Carry out a line, and return its answer."""
        words = split_line(line)
        values = self._values(words)
        if words[0] in _QUESTIONS:
            ask = _QUESTIONS[words[0]]
            return ask(values)
        change = _CHANGES[words[0]]
        thing = change(values)
        self._take_effect(line, (words[1], self._things.get(words[1]), thing))
        self._undone = []
        return words[1] if thing is None else _text_of(thing)

    def run_all(self, lines):
        """Carry out the lines in order, or none of them, and return their answers."""
        things = dict(self._things)
        state = list(self._lines), list(self._edits), list(self._undone)
        answers = []
        for index, line in enumerate(lines):
            try:
                answers.append(self.run(line))
            except BoughError:
                self._things = things
                self._lines, self._edits, self._undone = state
                raise BatchRefused(index)
        return answers

    def undo(self):
        """Take back the last change that is in effect, and return its line."""
        if not self._lines:
            raise NothingToUndo()
        line = self._lines.pop()
        edit = self._edits.pop()
        self._undone.append((line, edit))
        self._set(edit[0], edit[1])
        return line

    def redo(self):
        """Carry out once more the change that was taken back last, and return its line."""
        if not self._undone:
            raise NothingToRedo()
        line, edit = self._undone.pop()
        self._take_effect(line, edit)
        return line

    def journal(self):
        """Return the lines of the changes that are in effect, the oldest first."""
        return list(self._lines)

    def names(self):
        """Return the tuples (name, kind) of all names in ascending order."""
        return [(name, _kind_of(self._things[name])) for name in sorted(self._things)]

    def _take_effect(self, line, edit):
        self._lines.append(line)
        self._edits.append(edit)
        self._set(edit[0], edit[2])

    def _set(self, name, thing):
        """Let the name stand for the thing, or for nothing if it is None."""
        if thing is None:
            del self._things[name]
        else:
            self._things[name] = thing

    def _values(self, words):
        """Return what the words behind the command stand for, or raise an error for the first bad one."""
        pairs = list(zip(word_kinds(words), words[1:]))
        for kind, word in pairs:
            self._need_name(kind, word)
        values = [self._value(kind, word) for kind, word in pairs]
        cells = [value for (kind, _), value in zip(pairs, values) if kind == "cell"]
        for index, cell in enumerate(cells):
            if cell >= values[0].size or (words[0] in ("move", "region") and cell in cells[:index]):
                raise OutOfRange(cell)
        if words[0] == "region" and not _is_plain(values[1]):
            raise WrongKind(words[2])
        return values

    def _need_name(self, kind, word):
        """Raise an error if the word is a name that has a fault."""
        if kind == "new":
            if word in self._things:
                raise NameTaken(word)
        elif kind in _NAMED:
            if word not in self._things:
                raise UnknownName(word)
            if kind not in ("name", _kind_of(self._things[word])):
                raise WrongKind(word)

    def _value(self, kind, word):
        if kind == "cell":
            return int(word)
        return self._things[word] if kind in _NAMED else word


def replay(lines):
    """Return a new desk on which the lines have been carried out."""
    desk = Desk()
    desk.run_all(lines)
    return desk


def _kind_of(thing):
    return "tree" if isinstance(thing, Tree) else "script"


def _text_of(thing):
    return format_tree(thing) if isinstance(thing, Tree) else thing.text


def _listed(numbers):
    """Return the numbers separated by blanks."""
    return " ".join([str(number) for number in numbers]) if numbers else _NOTHING


def _is_plain(script):
    """Tell whether the script is an order: one run that consists of letters alone."""
    return script.run_count() == 1 and "{" not in script.text
