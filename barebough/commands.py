"""Commands: the words of a command line of a desk."""

from barebough.errors import BadCommand
from barebough.notation import is_number

# What the words behind a command stand for. "new" is a name to be defined, "name" one of
# any thing, "text" one word and "line" the rest of the line. "cell" as the last one may be
# repeated where REPEATED names the command.
COMMANDS = {
    "tree": ("new", "line"),
    "script": ("new", "text"),
    "chain": ("new", "script", "script"),
    "graft": ("tree", "cell"),
    "pluck": ("tree", "cell"),
    "move": ("tree", "cell", "cell"),
    "drop": ("name",),
    "show": ("name",),
    "sizes": ("tree", "cell"),
    "row": ("script",),
    "fate": ("tree", "cell", "script"),
    "cells": ("tree", "script"),
    "compare": ("tree", "cell", "cell"),
    "region": ("tree", "script", "cell"),
}
REPEATED = "region"

_LETTERS = "abcdefghijklmnopqrstuvwxyz"
_MOST_LETTERS = 8


def split_line(line):
    """Return the words of a command line, or raise BadCommand for the first bad word."""
    words = line.split(" ")
    if words[0] not in COMMANDS:
        raise BadCommand(0)
    if words[0] == "tree":
        words = line.split(" ", 2)
    kinds = word_kinds(words)
    for index, (kind, word) in enumerate(zip(kinds, words[1:])):
        if not _is_good(kind, word):
            raise BadCommand(index + 1)
    if len(words) != len(kinds) + 1:
        raise BadCommand(min(len(words), len(kinds) + 1))
    return words


def word_kinds(words):
    """Return what the words behind the command of a line stand for."""
    kinds = list(COMMANDS[words[0]])
    if words[0] == REPEATED:
        kinds = kinds + kinds[-1:] * (len(words) - len(kinds) - 1)
    return kinds


def _is_good(kind, word):
    """Tell whether a word may stand where a word of this kind is due."""
    if kind == "line":
        return True
    if kind == "text":
        return word != ""
    if kind == "cell":
        return is_number(word)
    return 1 <= len(word) <= _MOST_LETTERS and all(sign in _LETTERS for sign in word)
