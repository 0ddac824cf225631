"""Scripts: points 38 to 43, with points 2, 3, 22 and 30."""

import random
import time
import unittest
from itertools import product

from barebough.errors import TooLarge, WrongLength
from barebough.reading import parse_script
from barebough.rows import fits, free_row, pull
from barebough.scripts import Script, joined
from tests.helpers import (orders, random_script, random_sizes, script_keeps, script_length, script_runs, script_text,
                           script_turns, size_lists, spoil, step_row)

SECONDS = 5
ROUNDS = 250


def run_count(items):
    """Return the number of runs of a script, without going through them."""
    many = 1
    for item in items:
        if item[0] == "group":
            many *= run_count(item[1])
        elif item[0] == "choice":
            many *= sum(run_count(part) for part in item[1])
        elif item[0] == "times":
            many *= run_count([item[2]]) ** item[1]
    return many


def drawn_scripts(seed, turns, most_runs):
    """Return scripts that are drawn at random and have not too many runs."""
    rng = random.Random(seed)
    found = []
    while len(found) < ROUNDS:
        items = random_script(rng, rng.randint(0, turns))
        if run_count(items) <= most_runs and script_length(items) <= 60:
            found.append(items)
    return found


def run_row(run, goal):
    """Return the row of a run, by the words of point 40."""
    row = list(goal)
    for step in run[::-1]:
        if step in ("K", "R"):
            row = step_row(step, row)
        elif row:
            for k, bound in step[1]:
                place = min(k, len(row)) - 1
                row[place] = min(row[place], bound)
    return row


def drawn_goal(rng, left):
    return rng.choice([free_row(left), [rng.randint(-1, left + 1) for _ in range(left)]])


class Shape(unittest.TestCase):
    """Point 38."""

    def test_text_and_turns(self):
        script = parse_script("K2[R|K]{1:3}")
        self.assertIsInstance(script, Script)
        self.assertEqual((script.text, script.turns), ("K2[R|K]{1:3}", 3))
        self.assertEqual((parse_script("").text, parse_script("").turns), ("", 0))

    def test_joined(self):
        script = joined(parse_script("2(K[R|K])"), parse_script("{1:1}R"))
        self.assertIsInstance(script, Script)
        self.assertEqual((script.text, script.turns), ("2(K[R|K]){1:1}R", 5))
        self.assertEqual(script.runs(), parse_script(script.text).runs())

    def test_joined_with_the_empty_text(self):
        empty, script = parse_script(""), parse_script("[K|R]{1:2}")
        for first, second in ((empty, script), (script, empty), (empty, empty)):
            both = joined(first, second)
            self.assertEqual((both.text, both.turns), (first.text + second.text, first.turns + second.turns))
            self.assertEqual((both.row(goal=[9]), both.runs()), (parse_script(both.text).row(goal=[9]),
                                                                 parse_script(both.text).runs()))

    def test_joined_is_the_joined_text(self):
        pairs = drawn_scripts(38, 3, 7)
        for first, second in zip(pairs[::2], pairs[1::2]):
            both = joined(parse_script(script_text(first)), parse_script(script_text(second)))
            read = parse_script(script_text(first) + script_text(second))
            self.assertEqual((both.text, both.turns, both.run_count(), both.runs()),
                             (read.text, read.turns, read.run_count(), read.runs()))
            self.assertEqual(both.row(goal=(1, 2)), read.row(goal=(1, 2)))
            self.assertEqual(both.row(), parse_script(script_text(first)).row(
                goal=parse_script(script_text(second)).row()))

    def test_joined_too_large(self):
        free = "{1:199}"
        self.assertEqual(joined(parse_script("99K"), parse_script("99KK")).turns, 199)
        self.assertEqual(joined(parse_script(free * 200), parse_script(free * 200)).turns, 0)
        for first, second, count in (("99K", "99KKK", 200), ("99K99KK", "R", 200), (free * 200, free * 201, 401),
                                     ("99K99KK" + free * 201, "K", 401), ("99K99KK" + free * 200, "K", 200),
                                     ("2(99K)", "2(99K)", 396), ("[99K99K|99K99K]", "4K", 401)):
            one, other = parse_script(first), parse_script(second)
            with self.assertRaises(TooLarge) as caught:
                joined(one, other)
            self.assertEqual(caught.exception.count, count)
            self.assertEqual([one.text, other.text], [first, second])

    def test_joined_many_times(self):
        script = parse_script("")
        for _ in range(2000):
            script = joined(script, parse_script(""))
        for _ in range(199):
            script = joined(script, parse_script("R"))
        self.assertEqual((script.text, script.turns, script.run_count()), ("R" * 199, 199, 1))
        self.assertEqual(script.row(), pull("R" * 199))


class Rows(unittest.TestCase):
    """Point 40."""

    def test_example(self):
        self.assertEqual(parse_script("[KR|RK]{1:1}K").row(), [2, 3, 3])

    def test_letters_step_the_row(self):
        for order in orders(5):
            for goal in ([], [1], [2, 2, 2], [9, -1]):
                self.assertEqual(parse_script(order).row(goal=goal), pull(order, goal=goal))

    def test_goal_as_list_and_tuple_and_left_out(self):
        script = parse_script("K[R|K]")
        self.assertEqual(script.row(goal=[1, 2]), script.row(goal=(1, 2)))
        self.assertEqual(script.row(), script.row(goal=[]))
        self.assertEqual(script.row(), script.row(goal=()))
        self.assertEqual(parse_script("").row(goal=(9, -3)), [9, -3])
        self.assertEqual(parse_script("").row(), [])
        with self.assertRaises(TypeError):
            script.row([1, 2])

    def test_demands(self):
        self.assertEqual(parse_script("{1:2}").row(goal=[5, 5, 5]), [2, 5, 5])
        self.assertEqual(parse_script("{2:1,3:4}").row(goal=[5, 5, 5]), [5, 1, 4])
        self.assertEqual(parse_script("{1:2}").row(goal=[-3, 5]), [-3, 5])
        self.assertEqual(parse_script("{1:2}").row(goal=[2, 5]), [2, 5])
        self.assertEqual(parse_script("{1:3}{1:2}{1:4}").row(goal=[9]), [2])

    def test_demands_beyond_the_row(self):
        self.assertEqual(parse_script("{4:1}").row(goal=[5, 5, 5]), [5, 5, 1])
        self.assertEqual(parse_script("{199:0}").row(goal=(7,)), [0])
        self.assertEqual(parse_script("{3:4,4:2,9:3}").row(goal=[5, 5, 5]), [5, 5, 2])
        self.assertEqual(parse_script("{3:1,4:2}").row(goal=[5, 5, 5]), [5, 5, 1])

    def test_demands_on_the_empty_row(self):
        for text in ("{1:0}", "{1:0,199:0}", "[{1:0}|{2:0}]"):
            self.assertEqual(parse_script(text).row(), [])
        self.assertEqual(parse_script("K{1:0}").row(), [1])

    def test_choices_take_the_least_bounds(self):
        self.assertEqual(parse_script("[{1:1}|{2:2}|{3:3}]").row(goal=[9, 9, 9, 9]), [1, 2, 3, 9])
        self.assertEqual(parse_script("[K|R]").row(), [0])
        self.assertEqual(parse_script("[KK|RK]").row(), [1, 2])
        self.assertEqual(parse_script("[[K{1:3}|R]|K]").row(goal=[9, 9]),
                         [min(bounds) for bounds in zip(pull("K", goal=[3, 9]), pull("R", goal=[9, 9]))])

    def test_each_bound_is_the_least_of_all_runs(self):
        rng = random.Random(40)
        for items in drawn_scripts(40, 5, 200):
            script = parse_script(script_text(items))
            for left in range(4):
                goal = [rng.randint(-2, left + 3) for _ in range(left)]
                rows = [run_row(run, goal) for run in script_runs(items)]
                self.assertEqual(script.row(goal=goal), [min(bounds) for bounds in zip(*rows)])

    def test_items_are_pulled_from_the_last_to_the_first(self):
        # Behind the turn the demand is for what is left.
        self.assertEqual(parse_script("K{1:1}").row(goal=[9, 9]), step_row("K", [1, 9]))
        self.assertEqual(parse_script("{1:1}K").row(goal=[9, 9]), [1] + step_row("K", [9, 9])[1:])


class Keeping(unittest.TestCase):
    """Points 39 and 41."""

    def test_small_scripts_by_the_game(self):
        rng = random.Random(41)
        for items in drawn_scripts(41, 5, 60):
            script = parse_script(script_text(items))
            for left in range(3):
                goal = drawn_goal(rng, left)
                for sizes in size_lists(script.turns + left):
                    self.assertIs(script.keeps(sizes), script_keeps(sizes, items))
                    self.assertIs(script.keeps(sizes, goal=goal), script_keeps(sizes, items, goal))
                    self.assertIs(script.keeps(sizes, goal=tuple(goal)), script_keeps(sizes, items, goal))
                    self.assertIs(fits(sizes, script.row(goal=goal)), script_keeps(sizes, items, goal))

    def test_demands(self):
        script = parse_script("{1:2,2:3}")
        self.assertEqual([script.keeps(sizes) for sizes in ([], [2], [3], [2, 1], [2, 2], [2, 1, 1], [1, 1, 1, 1])],
                         [True, True, False, True, False, True, True])
        # H(5) of a list with the sum 3 is 3.
        self.assertEqual([parse_script(text).keeps([2, 1]) for text in ("{5:2}", "{5:3}")], [False, True])
        self.assertEqual([parse_script(text).keeps([]) for text in ("{5:0}", "", "[{1:0}|{2:0}]")], [True] * 3)

    def test_goals(self):
        script = parse_script("KR")
        self.assertEqual([script.keeps([2, 2]), script.keeps([2, 2], goal=[1, 2]), script.keeps([2, 2], goal=None),
                          script.keeps([2, 2], goal=(2, 2)), script.keeps([1, 1], goal=()),
                          script.keeps([2, 1, 1], goal=[1, 2])],
                         [True, False, True, True, False, True])

    def test_a_repeated_choice_is_chosen_anew(self):
        # Each of KR and RK alone, twice, is weaker than the mixtures.
        script = parse_script("2[KR|RK]K")
        self.assertEqual(script.runs(), ["KRKRK", "KRRKK", "RKKRK", "RKRKK"])
        for sizes in size_lists(5):
            self.assertIs(script.keeps(sizes), all(parse_script(run).keeps(sizes) for run in script.runs()))

    def test_wrong_length(self):
        for name in ("keeps", "losing_run"):
            for text, sizes, goal, given, needed in (
                    ("KRK", [1, 1], None, 3, 2), ("KRK", [1, 1], [], 3, 2), ("KRK", [1, 1], [1, 1], 3, 2),
                    ("K", [], None, 1, 0), ("KRK", [2, 2], [], 0, 1), ("KRK", [2, 2], (1, 1), 2, 1),
                    ("2[K|R]{1:1}", [1], (), 2, 1), ("", [3], [], 0, 3), ("", [], [0], 1, 0), ("KRK", [3], [3], 1, 0)):
                with self.assertRaises(WrongLength) as caught:
                    getattr(parse_script(text), name)(sizes, goal=goal)
                self.assertEqual((caught.exception.given, caught.exception.needed), (given, needed), (name, text))

    def test_goals_are_passed_by_name(self):
        script = parse_script("K")
        for function in (script.keeps, script.losing_run):
            with self.assertRaises(TypeError):
                function([1, 1], [1])


class Runs(unittest.TestCase):
    """Point 42."""

    def test_examples(self):
        self.assertEqual(parse_script("[KR|RK]{1:1}K").run_count(), 2)
        self.assertEqual(parse_script("[KR|RK]{1:1}K").runs(), ["KR{1:1}K", "RK{1:1}K"])

    def test_no_choice(self):
        for text, run in (("", ""), ("KRRK", "KRRK"), ("3(K2R)", "KRRKRRKRR"),
                          ("2({1:2,3:4}K)", "{1:2,3:4}K{1:2,3:4}K")):
            self.assertEqual((parse_script(text).run_count(), parse_script(text).runs()), (1, [run]))

    def test_order_and_equal_runs(self):
        self.assertEqual(parse_script("[R|K][K|R]").runs(), ["RK", "RR", "KK", "KR"])
        self.assertEqual(parse_script("[[R|K]R|KK]").runs(), ["RR", "KR", "KK"])
        self.assertEqual(parse_script("[[K|R]|K]").runs(), ["K", "R", "K"])
        self.assertEqual(parse_script("[K|K|K]").runs(), ["K", "K", "K"])
        self.assertEqual(parse_script("2[K|R{1:1}]").runs(), ["KK", "KR{1:1}", "R{1:1}K", "R{1:1}R{1:1}"])
        self.assertEqual(parse_script("[K[K|R]|RK]").runs(), ["KK", "KR", "RK"])

    def test_all_runs_of_small_scripts(self):
        for items in drawn_scripts(42, 6, 64):
            script = parse_script(script_text(items))
            runs = [script_text(run) for run in script_runs(items)]
            self.assertEqual((script.run_count(), script.runs()), (len(runs), runs))

    def test_sixty_four_runs_and_one_more(self):
        script = parse_script("6[K|R]")
        self.assertEqual(script.runs(), orders(6))
        self.assertEqual(len(parse_script("[" + "|".join(["K"] * 64) + "]").runs()), 64)
        for text, count in (("[" + "|".join(["K"] * 65) + "]", 65), ("[6[K|R]|6K]", 65), ("7[K|R]", 128),
                            ("[K|K|K|K|K][K|K|K|K|K|K|K|K|K|K|K|K|K]", 65), ("99[K|R]", 2 ** 99)):
            script = parse_script(text)
            with self.assertRaises(TooLarge) as caught:
                script.runs()
            self.assertEqual((caught.exception.count, script.run_count()), (count, count))

    def test_very_great_numbers_of_runs(self):
        start = time.monotonic()
        self.assertEqual(parse_script("99[K|R]34[K|R]").run_count(), 2 ** 133)
        self.assertEqual(parse_script("99[K|R|K]").run_count(), 3 ** 99)
        self.assertEqual(parse_script("57[[K|R]|[R|K]]").run_count(), 4 ** 57)
        self.assertLess(time.monotonic() - start, SECONDS)

    def test_runs_with_long_demands_within_seconds(self):
        start = time.monotonic()
        long = "{" + ",".join(f"{k}:199" for k in range(1, 200)) + "}"
        script = parse_script("99(" + long + ")99(" + long + ")6[K|R]")
        runs = script.runs()
        self.assertEqual((len(runs), runs[5] == long * 198 + "KKKRKR"), (64, True))
        self.assertLess(time.monotonic() - start, SECONDS)


class Losing(unittest.TestCase):
    """Point 43."""

    def test_example(self):
        self.assertEqual(parse_script("[KR|RK]{1:1}K").losing_run([2, 2]), "KR{1:1}K")

    def test_first_losing_run_by_the_game(self):
        rng = random.Random(43)
        seen = set()
        for items in drawn_scripts(43, 5, 30):
            script = parse_script(script_text(items))
            left = rng.randint(0, 2)
            for goal in (None, drawn_goal(rng, left)):
                for sizes in size_lists(script.turns + left):
                    lost = [run for run in script_runs(items) if not script_keeps(sizes, run, goal)]
                    found = script.losing_run(sizes, goal=goal)
                    self.assertEqual(found, script_text(lost[0]) if lost else None)
                    self.assertIs(script.keeps(sizes, goal=goal), found is None)
                    seen.add(script_runs(items).index(lost[0]) if lost else -1)
        # Kept lists, lists that the first run loses, and lists that only later ones lose.
        self.assertTrue({-1, 0, 1, 2} <= seen)

    def test_choices_behind_the_loss_take_their_first_alternatives(self):
        self.assertEqual(parse_script("R[K|R][R|K]").losing_run([3]), "RKR")
        self.assertEqual(parse_script("{1:1}[{1:9}|{1:8}][K|R]").losing_run([2]), "{1:1}{1:9}K")
        self.assertEqual(parse_script("[K|R][{1:5}|{1:0}][K|R]").losing_run([1, 1, 1]), "K{1:0}K")

    def test_the_empty_script_and_the_goal(self):
        self.assertIsNone(parse_script("").losing_run([2, 1]))
        self.assertEqual(parse_script("").losing_run([2, 1], goal=(1, 3, 3)), "")
        self.assertEqual(parse_script("[K|R]").losing_run([2, 1], goal=[0, 9]), "K")
        self.assertEqual(parse_script("[K|R]").losing_run([2, 1], goal=[1, 9]), "R")

    def test_very_great_numbers_of_runs(self):
        start = time.monotonic()
        script = parse_script("99[K|R]34[K|R]")
        self.assertEqual(script.losing_run([1] * 133), "K" * 132 + "R")
        self.assertEqual(script.losing_run([67, 66]), "K" * 132 + "R")
        # With one letter R in 133 turns the cell falls only if that is the last one.
        self.assertIsNone(parse_script("99[K|R]33[K|R]").losing_run([1] * 133))
        self.assertEqual(script.losing_run([199]), "K" * 132 + "R")
        self.assertLess(time.monotonic() - start, SECONDS)

    def test_deep_choices_within_seconds(self):
        start = time.monotonic()
        text = "K" * 15
        for _ in range(11):
            text = "[" + text + "|" + "R" * 15 + "]"
        script = parse_script(text + "[" + "K" * 84 + "|" + "R" * 84 + "]")
        self.assertEqual(script.run_count(), 24)
        # Keeper levels [100, 99] far enough for all that Raider can take, but not [150, 49].
        self.assertEqual(script.losing_run([150, 49]), "K" * 15 + "R" * 84)
        self.assertEqual(script.losing_run([199]), "K" * 15 + "R" * 84)
        self.assertIsNone(script.losing_run([1] * 199))
        self.assertLess(time.monotonic() - start, SECONDS)

    def test_against_single_runs_on_greater_lists(self):
        rng = random.Random(430)
        for _ in range(60):
            items = random_script(rng, rng.randint(8, 14), 2)
            if run_count(items) > 64:
                continue
            script = parse_script(script_text(items))
            sizes = random_sizes(rng, script_turns(items) + rng.randint(0, 6))
            lost = [run for run in script.runs() if not parse_script(run).keeps(sizes)]
            self.assertEqual(script.losing_run(sizes), lost[0] if lost else None)


class Separate(unittest.TestCase):
    """Point 2: arguments stay as they are, lists are new, and a script never changes."""

    def test_returned_lists_are_new(self):
        script = parse_script("K[{1:2}R|K]")
        calls = [script.runs, script.row, lambda: script.row(goal=[1, 9]), lambda: parse_script("").row(goal=[1, 9]),
                 lambda: parse_script("{9:9}").row(), lambda: parse_script("").row(), lambda: parse_script("").runs()]
        for call in calls:
            before = repr(call())
            spoil(call())
            self.assertEqual(repr(call()), before)

    def test_arguments_stay_as_they_are(self):
        for text in ("", "{1:1,3:2}", "[K|R]{1:1}", "2(K[{1:1}|{2:2}])"):
            script = parse_script(text)
            for goal in ([9, 2], (9, 2)):
                sizes = [script.turns, 2] if script.turns > 1 else [2 + script.turns]
                before = repr((sizes, goal))
                script.row(goal=goal)
                script.keeps(sizes, goal=goal)
                script.losing_run(sizes, goal=goal)
                self.assertEqual(repr((sizes, goal)), before)

    def test_calls_do_not_change_a_script(self):
        script = parse_script("2[K{1:2}|R]K")
        lists = size_lists(4)

        def answers():
            return (script.text, script.turns, script.row(), script.row(goal=[1]), script.run_count(), script.runs(),
                    [script.keeps(sizes) for sizes in lists], [script.losing_run(sizes) for sizes in lists])

        before = answers()
        for _ in range(3):
            joined(script, script)
            joined(parse_script("K"), script)
            self.assertEqual(answers(), before)


class Long(unittest.TestCase):
    """Point 3: long scripts, within a few seconds."""

    def test_longest_scripts(self):
        start = time.monotonic()
        for text in ("99[K|R]34[K|R]", "99(KR)K", "2(39[K{1:150}|R{1:160}])[K|R]", "99K99RK"):
            script = parse_script(text)
            for sizes in ([199], [100, 99], [1] * 199, [50, 50, 50, 49]):
                goal = free_row(199 - script.turns)
                self.assertIs(script.keeps(sizes), fits(sizes, script.row(goal=goal)))
                self.assertIs(script.losing_run(sizes) is None, script.keeps(sizes))
        self.assertLess(time.monotonic() - start, SECONDS)

    def test_all_orders_in_one_script(self):
        # Twelve free choices mean all orders of twelve turns: the row is that of the letters R alone.
        for turns in range(1, 13):
            script = parse_script("[K|R]" * turns)
            for left in range(3):
                self.assertEqual(fits([1] * (turns + left), script.row(goal=free_row(left))), left > 0)
        for signs in product("KR", repeat=3):
            script = parse_script("[K|R][K|R]" + "".join(signs))
            self.assertEqual(script.keeps([2, 2, 1]), all(parse_script(run).keeps([2, 2, 1]) for run in script.runs()))


if __name__ == "__main__":
    unittest.main()
