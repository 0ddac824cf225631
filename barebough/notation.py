"""The text of a tree."""

from barebough.errors import BadText
from barebough.trees import Tree

_DIGITS = "0123456789"
_MOST_DIGITS = 3
_MOST_CELLS = 200


def format_tree(tree):
    """Return the text of the tree: its size and its links in ascending order."""
    return " ".join([str(tree.size)] + [f"{low}-{high}" for low, high in tree.links()])


def parse_tree(text):
    """Return the tree of a text; the links may stand in any order and direction."""
    words = text.split(" ")
    position = 0
    for index, word in enumerate(words):
        good = _is_size(word) if index == 0 else _is_link(word)
        if not good:
            raise BadText(position)
        position += len(word) + 1
    return Tree(int(words[0]), [_read_link(word) for word in words[1:]])


def is_number(word):
    """Tell whether the word is a number of one to three digits without a leading zero."""
    if not 1 <= len(word) <= _MOST_DIGITS:
        return False
    if word[0] == "0" and len(word) > 1:
        return False
    return all(sign in _DIGITS for sign in word)


def _is_size(word):
    return is_number(word) and 1 <= int(word) <= _MOST_CELLS


def _is_link(word):
    one, _, other = word.partition("-")
    return is_number(one) and is_number(other)


def _read_link(word):
    one, _, other = word.partition("-")
    return int(one), int(other)
