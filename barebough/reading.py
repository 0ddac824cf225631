"""Reading the text of a script."""

from barebough.errors import BadText, UnevenChoice
from barebough.notation import is_number
from barebough.scripts import Choice, Demand, Sequence, Turn, sized_script

_DIGITS = "0123456789"
_MOST_OPEN = 12
_LEAST_COUNT = 2
_MOST_COUNT = 99
_MOST_BOUND = 199


def parse_script(text):
    """Return the script of a text, or raise the error that is met first."""
    return sized_script(text, Reader(text).read_parts(0, ("",)))


class Reader:
    """Reads the parts of a script from left to right.

    The sign at the end of the text is the empty string, which nothing but the end of the
    whole script may stand at. So a text that ends too early is refused like a bad sign.
    """

    def __init__(self, text):
        self._text = text
        self._at = 0

    def read_parts(self, depth, ends):
        """Return the parts up to one of the ends; `depth` is the number of open brackets."""
        found = []
        while self._sign() not in ends or (depth and not found):
            found.append(self._read_part(depth))
        return found

    def _read_part(self, depth):
        if self._sign() == "{":
            return self._read_demand()
        times = self._read_number(_LEAST_COUNT, _MOST_COUNT) if self._is_digit() else 1
        sign = self._sign()
        if sign in ("K", "R"):
            self._at += 1
            part = Turn(sign)
        elif sign == "(" and depth < _MOST_OPEN:
            part = self._read_group(depth + 1)
        elif sign == "[" and depth < _MOST_OPEN:
            part = self._read_choice(depth + 1)
        else:
            raise BadText(self._at)
        return part if times == 1 else Sequence([part], times)

    def _read_group(self, depth):
        self._at += 1
        parts = self.read_parts(depth, (")",))
        self._at += 1
        return Sequence(parts, 1)

    def _read_choice(self, depth):
        start = self._at
        self._at += 1
        # The first alternative must not be the only one, so it has no other end.
        found = [Sequence(self.read_parts(depth, ("|",)), 1)]
        while self._sign() == "|":
            self._at += 1
            found.append(Sequence(self.read_parts(depth, ("|", "]")), 1))
        if any(part.turns != found[0].turns for part in found):
            raise UnevenChoice(start)
        self._at += 1
        return Choice(found)

    def _read_demand(self):
        start = self._at
        pairs = []
        count = 0
        while self._sign() != "}":
            self._at += 1
            count = self._read_number(count + 1, _MOST_BOUND)
            self._need_sign((":",))
            self._at += 1
            pairs.append((count, self._read_number(0, _MOST_BOUND)))
            self._need_sign((",", "}"))
        self._at += 1
        return Demand(self._text[start:self._at], pairs)

    def _read_number(self, least, most):
        start = self._at
        while self._is_digit():
            self._at += 1
        word = self._text[start:self._at]
        if not (is_number(word) and least <= int(word) <= most):
            raise BadText(start)
        return int(word)

    def _need_sign(self, signs):
        if self._sign() not in signs:
            raise BadText(self._at)

    def _is_digit(self):
        return self._at < len(self._text) and self._text[self._at] in _DIGITS

    def _sign(self):
        return self._text[self._at:self._at + 1]
