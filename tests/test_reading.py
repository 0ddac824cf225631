"""Reading scripts: points 35 to 37, with points 2 and 3."""

import random
import time
import unittest
from itertools import product

from barebough.errors import BadText, TooLarge, UnevenChoice
from barebough.reading import parse_script
from barebough.scripts import Script
from tests.helpers import random_script, script_length, script_text, script_turns

SECONDS = 5


class Frame:
    """What stands inside one bracket, or in the whole text, as far as it is read."""

    def __init__(self, sign, start, times):
        self.sign = sign
        self.start = start
        self.times = times
        self.alternatives = []
        self.fresh()

    def fresh(self):
        self.turns = 0
        self.length = 0
        self.items = 0

    def add(self, turns, length):
        self.turns += turns
        self.length += length
        self.items += 1

    def end_alternative(self):
        self.alternatives.append((self.turns, self.length))
        self.fresh()


def number_at(text, at, least, most):
    """Return the number that begins at an index and the index behind it, or None for the number."""
    end = at
    while end < len(text) and text[end] in "0123456789":
        end += 1
    word = text[at:end]
    if word and word == str(int(word)) and least <= int(word) <= most:
        return int(word), end
    return None, at


def demand_end(text, at):
    """Return (index behind the demand, None), or (None, index of the first fault)."""
    last = 0
    while True:
        last, end = number_at(text, at + 1, last + 1, 199)
        if last is None:
            return None, at + 1
        if text[end:end + 1] != ":":
            return None, end
        bound, end = number_at(text, end + 1, 0, 199)
        if bound is None:
            return None, end
        if text[end:end + 1] == "}":
            return end + 1, None
        if text[end:end + 1] != ",":
            return None, end
        at = end


def judged(text):
    """Return ("good", turns, length), ("bad", position) or ("uneven", position): read with a stack of brackets."""
    frames = [Frame("", 0, 1)]
    at = 0
    while at < len(text):
        times = 1
        counted = text[at] in "0123456789"
        if counted:
            times, end = number_at(text, at, 2, 99)
            if times is None or end == len(text):
                return "bad", at if times is None else end
            at = end
        sign = text[at]
        frame = frames[-1]
        closes = not counted and frame.items > 0
        if sign in "KR":
            frame.add(times, times)
        elif sign in "([" and len(frames) < 13:
            frames.append(Frame(sign, at, times))
        elif sign == "{" and not counted:
            end, fault = demand_end(text, at)
            if end is None:
                return "bad", fault
            frame.add(0, 1)
            at = end - 1
        elif sign == "|" and closes and frame.sign == "[":
            frame.end_alternative()
        elif sign == ")" and closes and frame.sign == "(":
            frames.pop()
            frames[-1].add(frame.times * frame.turns, frame.times * frame.length)
        elif sign == "]" and closes and frame.sign == "[" and frame.alternatives:
            frame.end_alternative()
            if len({turns for turns, _ in frame.alternatives}) > 1:
                return "uneven", frame.start
            frames.pop()
            length = 1 + sum(length for _, length in frame.alternatives)
            frames[-1].add(frame.times * frame.alternatives[0][0], frame.times * length)
        else:
            return "bad", at
        at += 1
    if len(frames) > 1:
        return "bad", len(text)
    return "good", frames[0].turns, frames[0].length


def answer(text):
    """Return what parse_script says of a text, in the words of `judged`."""
    try:
        script = parse_script(text)
    except BadText as error:
        return "bad", error.position
    except UnevenChoice as error:
        return "uneven", error.position
    except TooLarge as error:
        return "large", error.count
    return "good", script.turns


class Good(unittest.TestCase):
    """Points 35 and 36."""

    def test_example(self):
        script = parse_script("2(K[R|K{1:2}])R")
        self.assertIsInstance(script, Script)
        self.assertEqual([script.text, script.turns], ["2(K[R|K{1:2}])R", 5])

    def test_every_kind_of_item(self):
        for text, turns in (("", 0), ("K", 1), ("R", 1), ("KRRK", 4), ("(K)", 1), ("((KR)R)", 3), ("[K|R]", 1),
                            ("[KK|KR|RR|RK]", 2), ("{1:0}", 0), ("{1:2,3:4,199:199}", 0), ("2K", 2), ("99R", 99),
                            ("3(KR)", 6), ("2[KR|RK]", 4), ("(2(2K))", 4), ("[{1:1}|{2:2}]", 0), ("2({1:1})", 0),
                            ("[(K)|{1:1}R]", 1), ("[[K|R]|2[{1:1}|{1:2}]K]", 1), ("K{1:1}{1:1}R", 2),
                            ("10K", 10), ("{1:10,10:100,100:190}", 0), ("[2K|KK]", 2), ("{19:0}20R", 20)):
            script = parse_script(text)
            self.assertEqual([script.text, script.turns], [text, turns])

    def test_numbers_at_their_ends(self):
        for text in ("2K", "99K", "{1:0}", "{199:0}", "{1:199}", "{198:0,199:0}", "{1:0,2:0}"):
            self.assertEqual(parse_script(text).text, text)

    def test_drawn_scripts(self):
        rng = random.Random(35)
        for _ in range(300):
            items = random_script(rng, rng.randint(0, 7))
            text = script_text(items)
            self.assertEqual(judged(text), ("good", script_turns(items), script_length(items)))
            script = parse_script(text)
            self.assertEqual([script.text, script.turns], [text, script_turns(items)])

    def test_twelve_open_brackets(self):
        for text in ("(" * 12 + "K" + ")" * 12, "[" * 12 + "K" + "|K]" * 12, "(" * 11 + "2[K|R]" + ")" * 11,
                     "([" * 6 + "K" + "|K])" * 6, "(" * 12 + "K{1:1}" + ")" * 12 + "(" * 12 + "R" + ")" * 12):
            self.assertEqual(parse_script(text).text, text)
        # Braces do not count.
        self.assertEqual(parse_script("(" * 12 + "{1:1}" + ")" * 12).turns, 0)


class Bad(unittest.TestCase):
    """Point 37: the first error that is met."""

    def bad(self, position, *texts):
        for text in texts:
            with self.assertRaises(BadText) as caught:
                parse_script(text)
            self.assertEqual(caught.exception.position, position, text)

    def uneven(self, position, *texts):
        for text in texts:
            with self.assertRaises(UnevenChoice) as caught:
                parse_script(text)
            self.assertEqual(caught.exception.position, position, text)

    def test_examples(self):
        self.uneven(1, "K[R|KR]")
        self.bad(1, "3{1:2}")

    def test_signs_that_cannot_stand_there(self):
        self.bad(0, "k", " ", "?", "x", ")", "]", "|", "}", ":", ",", "-1K", " K")
        self.bad(1, "K ", "K)", "K]", "K|", "K}", "K:", "K,", "Kx", "(x", "[ ")
        self.bad(2, "KR)", "(K]", "(K|", "(K}", "[K)", "(K (")
        self.bad(3, "(K))", "KRK KR", "[K| R]")

    def test_ends_behind_no_item(self):
        self.bad(1, "()", "(]", "(|", "[]", "[|", "[)", "()K")
        self.bad(2, "(()", "[[|", "(2)", "[2|", "[2]")
        self.bad(3, "[K|]", "[K||R]", "[K|)", "(K()")

    def test_only_alternative(self):
        self.bad(2, "[K]", "[K]R")
        self.bad(3, "[[K]|[K]]", "[[K]K]")
        self.bad(4, "K[KR]", "[KRK]")

    def test_counts(self):
        self.bad(0, "1K", "0K", "100K", "02K", "00K", "1", "0", "100", "02", "1{1:1}", "1)", "123456789(", "9" * 4000)
        self.bad(1, "K1K", "(0K)", "[100(K)|K]", "R01K")
        self.bad(1, "2", "9", "2)", "2]", "2|", "2{1:1}", "2 K", "2x", "2}", "2,")
        self.bad(2, "99", "K2", "99{1:1}", "10)", "(2")
        # A number is read as far as its digits go, so no count stands in front of a count.
        self.bad(0, "222K")
        self.bad(3, "K22", "K22)")

    def test_demands(self):
        self.bad(1, "{", "{}", "{K", "{:1}", "{,", "{0:1}", "{200:1}", "{01:1}", "{1000:1}", "{0", "{200", "{01",
                 "{ 1:1}", "{-1:1}")
        self.bad(2, "{1", "{1}", "{1,", "{1 :1}", "{1K", "{1;1}")
        self.bad(3, "{1:", "{1:}", "{1:,2:2}", "{1:200}", "{1:00}", "{1:01}", "{1:200", "{1:00", "{1:K", "{1: 1}",
                 "{1:1000}", "{1:-1}")
        self.bad(4, "{1:1", "{1:1:", "{1:1K", "{1:1 }", "{1:1;2:1}", "{1:1)")
        self.bad(5, "{1:1,", "{1:1,}", "{1:1,1:1}", "{2:1,1:1}", "{2:1,2", "{2:1,0:1}", "{1:1,200:1}", "{1:1,02:1}",
                 "{9:1,9", "{1:1,,")
        self.bad(6, "{1:1,2", "{1:1,2}", "{1:1,2K", "{99:0,", "{99:0,,")
        self.bad(7, "{1:1,2:", "{1:1,2:200}", "{1:1,2:02}")
        self.bad(9, "{1:1,2:2,2:3}", "{1:1,2:2,1:3}")

    def test_text_that_ends_too_early(self):
        for text in ("(", "[", "{", "(K", "[K", "[K|", "[K|R", "((K)", "[K|(R)", "{1", "{1:", "{1:1", "{1:1,", "2",
                     "K12", "(K2", "[K|[R|K]", "{1:199,2", "([" * 6):
            self.bad(len(text), text)

    def test_too_many_open_brackets(self):
        self.bad(12, "(" * 13, "(" * 13 + "K" + ")" * 13, "[" * 13, "([" * 7, "(" * 12 + "[K|R]")
        self.bad(13, "(" * 12 + "K" + "(K)", "(" * 12 + "2(")
        self.bad(12, "(" * 12 + "1(")
        self.bad(12, "(" * 12 + ")")
        # Brackets that are closed again do not count.
        self.bad(24, "(K)" + "(" * 11 + "K[K|R](K)" + "((")

    def test_uneven_choices(self):
        self.uneven(0, "[K|KR]", "[K|{1:1}]", "[{1:1}|K]", "[K|R|RR]", "[2K|K]", "[K|K|K|3(KK)]", "[(K)|(KK)]")
        self.uneven(1, "([K|KK]", "([K|KK])", "2[K|KK]", "[[K|KK]|K]", "[[K|KK]")
        self.uneven(3, "[K|[K|KK]]", "[K|[R|RR]")
        # The inner choice is even, and it has another number of turns than the outer one needs.
        self.uneven(0, "[K|[KK|RR]]")

    def test_the_first_of_two_faults(self):
        self.uneven(0, "[K|KR])", "[K|KR]x", "[K|KR][")
        self.bad(5, "[K|KRx]", "[K|KR)", "[K|KR")
        self.bad(0, "1{0:0}")
        self.bad(4, "{1:1x2:200}")
        # Faults in the text come ahead of its size.
        self.bad(13, "99K99K99KK99K)")
        self.uneven(9, "99(99(K))[K|KK]")

    def test_all_short_texts(self):
        for length in range(6):
            for signs in product("K2(|)[]", repeat=length):
                text = "".join(signs)
                self.assertEqual(answer(text), judged(text)[:2], text)

    def test_all_short_demands(self):
        for length in range(7):
            for signs in product("01:,}", repeat=length):
                text = "{" + "".join(signs)
                self.assertEqual(answer(text), judged(text)[:2], text)

    def test_drawn_texts_with_a_fault(self):
        rng = random.Random(37)
        seen = set()
        for _ in range(3000):
            text = script_text(random_script(rng, rng.randint(0, 6)))
            at = rng.randint(0, len(text))
            text = text[:at] + rng.choice(["", "K", "1", "0", "2", "(", ")", "[", "]", "|", "{", "}", ":", ","]) + \
                text[at + rng.randint(0, 2):]
            found = judged(text)
            seen.add(found[0])
            self.assertEqual(answer(text), found[:2], text)
        self.assertEqual(seen, {"good", "bad", "uneven"})


class Large(unittest.TestCase):
    """Point 37: the length of 400 and the 199 turns of point 36."""

    def large(self, count, *texts):
        for text in texts:
            with self.assertRaises(TooLarge) as caught:
                parse_script(text)
            self.assertEqual(caught.exception.count, count, text)

    def test_turns(self):
        for text in ("99K99KK", "K" * 199, "2(99K)R", "[" + "K" * 199 + "|" + "R" * 199 + "]"):
            self.assertEqual(parse_script(text).turns, 199)
        self.large(200, "99K99KKK", "K" * 200, "2(99K)2R", "99(KR)KR", "2(10(10K))")
        self.large(298, "99K2(99R)K")

    def test_length(self):
        free = "{1:199}"
        for text in (free * 400, "4(99({1:1}))" + free * 4, "[99K99KK|99K99KK]{1:1}"):
            self.assertEqual(parse_script(text).text, text)
        self.assertEqual(parse_script("[99K99KK|99K99KK]{1:1}").turns, 199)
        self.large(401, free * 401, "4(99({1:1}))" + free * 5, "[99K99KK|99K99KK]{1:1}{1:1}")
        self.large(402, "67[{1:1}|{1:2}|{1:3}|{1:4}|{1:5}]")

    def test_the_length_comes_ahead_of_the_turns(self):
        self.large(401, "[99K99KKK|99K99KKK]")
        self.large(495, "5(99K)")
        self.large(401, "99K99KKK" + "{1:1}" * 201)
        self.large(200, "99K99KKK" + "{1:1}" * 200)

    def test_a_choice_counts_one_more_than_its_alternatives(self):
        # Three for each choice: 133 of them have the length 399.
        self.assertEqual(parse_script("99[K|R]34[K|R]{1:1}").turns, 133)
        self.large(401, "99[K|R]34[K|R]{1:1}{1:1}")
        self.large(402, "99[K|R]35[K|R]")

    def test_very_great_sizes(self):
        start = time.monotonic()
        self.large(99 ** 12 * 2, "99(" * 11 + "99(KR)" + ")" * 11)
        self.large(99 ** 12, "99(" * 12 + "R" + ")" * 12)
        with self.assertRaises(UnevenChoice):
            parse_script("[" + "99(" * 11 + "K" + ")" * 11 + "|K]")
        self.assertLess(time.monotonic() - start, SECONDS)

    def test_long_texts(self):
        start = time.monotonic()
        self.large(4000, "K" * 4000)
        self.large(1333, "(K)" * 1333)
        self.large(1000, "[K|R]" * 333 + "R")
        long = "{" + ",".join(f"{k}:199" for k in range(1, 200)) + "}"
        self.assertEqual(parse_script(long * 2 + "K").turns, 1)
        self.assertLess(time.monotonic() - start, SECONDS)


if __name__ == "__main__":
    unittest.main()
