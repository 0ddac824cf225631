"""Scripts: sets of orders with conditions on the way.

A script consists of parts: turns, demands, choices and sequences of parts. Every part
has its numbers `turns` and `length`, and the methods `trail`, `run_count`, `runs` and
`lost_run`. A row that a part is passed is the row behind it: the bounds that the rest of
the script sets for what the part leaves. A trail is a tuple of the row that the part turns
this into, and the list of the trails of the parts inside. It is made once, so that a walk
through the script need not pull a row again. Parts never change, so scripts may share them.
"""

from barebough.errors import TooLarge
from barebough.fates import plain_turn
from barebough.rows import due_goal, fits, turn_step

_MOST_LENGTH = 400
_MOST_TURNS = 199
_MOST_RUNS = 64


class Step:
    """A part with one run: its text."""

    def __init__(self, text, turns):
        self.text = text
        self.turns = turns
        self.length = 1

    def run_count(self):
        """Return the number of the runs of the part."""
        return 1

    def runs(self):
        """Return the runs of the part."""
        return [self.text]

    def trail(self, row):
        """Return the row that the part turns the row behind it into, and no inner trails."""
        return self.pulled(row), []

    def lost_run(self, sizes, _):
        """Return the run and what it leaves of the size list, None if that is lost by then."""
        left = None if sizes is None else self.played(sizes)
        return self.text, left


class Turn(Step):
    """One turn of the side that a letter names."""

    def __init__(self, letter):
        super().__init__(letter, 1)

    def pulled(self, row):
        """Return the row that the part turns the row behind it into."""
        return turn_step(self.text, row)

    def played(self, sizes):
        """Return what the part leaves of a size list, or None if the named cell falls."""
        return plain_turn(sizes, self.text)


class Demand(Step):
    """Bounds for top sums that the size list must keep to at this moment."""

    def __init__(self, text, pairs):
        super().__init__(text, 0)
        self._pairs = list(pairs)

    def pulled(self, row):
        """Return the row that the part turns the row behind it into."""
        bounds = list(row)
        if bounds:
            for count, bound in self._pairs:
                place = min(count, len(bounds)) - 1
                bounds[place] = min(bounds[place], bound)
        return bounds

    def played(self, sizes):
        """Return the size list, or None if it does not meet the demand."""
        met = all(sum(sizes[:count]) <= bound for count, bound in self._pairs)
        return sizes if met else None


class Choice:
    """Alternatives with the same number of turns, of which Raider chooses one."""

    def __init__(self, alternatives):
        self.turns = alternatives[0].turns
        self.length = 1 + sum([part.length for part in alternatives])
        self._alternatives = list(alternatives)

    def trail(self, row):
        """Return the row that the part turns the row behind it into, and the inner trails."""
        trails = [part.trail(row) for part in self._alternatives]
        rows = [front for front, _ in trails]
        return [min(bounds) for bounds in zip(*rows)], trails

    def run_count(self):
        """Return the number of the runs of the part."""
        return sum([part.run_count() for part in self._alternatives])

    def runs(self):
        """Return the runs of the part."""
        return [run for part in self._alternatives for run in part.runs()]

    def lost_run(self, sizes, trail):
        """Return the first lost run of a lost size list, and what it leaves, as in a step."""
        inner = zip(self._alternatives, trail[1])
        lost = [(part, way) for part, way in inner if sizes is None or not fits(sizes, way[0])]
        part, way = lost[0]
        return part.lost_run(sizes, way)


class Sequence:
    """Parts one after the other, and all of them so many times."""

    def __init__(self, parts, times):
        self.parts = list(parts)
        self.turns = times * sum([part.turns for part in parts])
        self.length = times * sum([part.length for part in parts])
        self._times = times

    def trail(self, row):
        """Return the row that the part turns the row behind it into, and the inner trails."""
        trails = []
        front = row
        for part in (self.parts * self._times)[::-1]:
            way = part.trail(front)
            trails.append(way)
            front = way[0]
        return front, trails[::-1]

    def run_count(self):
        """Return the number of the runs of the part."""
        many = 1
        for count in [part.run_count() for part in self.parts] * self._times:
            many *= count
        return many

    def runs(self):
        """Return the runs of the part."""
        found = [[]]
        for texts in [part.runs() for part in self.parts] * self._times:
            found = [run + [text] for run in found for text in texts]
        return ["".join(run) for run in found]

    def lost_run(self, sizes, trail):
        """Return the first lost run of a lost size list, and what it leaves, as in a step."""
        # The plain play is best for both sides whatever follows, so what it leaves of the
        # size list tells whether some run that begins as the text so far is lost.
        texts = []
        left = sizes
        for part, way in zip(self.parts * self._times, trail[1]):
            text, left = part.lost_run(left, way)
            texts.append(text)
        return "".join(texts), left


class Script:
    """A set of orders with conditions on the way. It never changes."""

    def __init__(self, text, whole):
        self.text = text
        self.turns = whole.turns
        self._whole = whole

    def row(self, *, goal=()):
        """Return the row that is pulled back through the script from the goal."""
        return self._whole.trail(list(goal))[0]

    def keeps(self, sizes, *, goal=None):
        """Tell whether the size list is kept under the script with the goal."""
        return self.losing_run(sizes, goal=goal) is None

    def run_count(self):
        """Return the number of the runs."""
        return self._whole.run_count()

    def runs(self):
        """Return all runs, or raise TooLarge if there are too many."""
        many = self.run_count()
        if many > _MOST_RUNS:
            raise TooLarge(many)
        return self._whole.runs()

    def losing_run(self, sizes, *, goal=None):
        """Return the first run under which the size list is lost, or None if it is kept."""
        trail = self._whole.trail(due_goal(sizes, self.turns, goal))
        if fits(sizes, trail[0]):
            return None
        return self._whole.lost_run(sizes, trail)[0]

    def followed_by(self, other):
        """Return the script of the texts of both scripts."""
        return sized_script(self.text + other.text, self._whole.parts + other._whole.parts)


def joined(first, second):
    """Return the script of both texts one after the other."""
    return first.followed_by(second)


def sized_script(text, parts):
    """Return the script of a text that consists of the parts, or raise TooLarge."""
    whole = Sequence(parts, 1)
    if whole.length > _MOST_LENGTH:
        raise TooLarge(whole.length)
    if whole.turns > _MOST_TURNS:
        raise TooLarge(whole.turns)
    return Script(text, whole)
