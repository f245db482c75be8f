"""Point 16: forms turned back into rows, and the names that are given to marks."""

import itertools
import random
import unittest

from joinmarks.back import names_by, turned_back
from joinmarks.once import made
from joinmarks.rows import run
from joinmarks.running import run_once
from joinmarks.short import shortened
from slow import Plain, beginnings, drawn, loops, walk, writes
from test_form import DIAMOND
from test_running import COUNTDOWN, SWAPS

WORDS = {"set": 3, "add": 4, "sub": 4, "less": 4, "say": 2, "jump": 2, "nought": 3, "stop": 1}

# Two names swap and three go round, all at one join.
RINGS = [("nought", "n", 15)] + [("say", name) for name in "abcde"] + [
    ("set", "t", "a"), ("set", "a", "b"), ("set", "b", "t"),
    ("set", "t", "c"), ("set", "c", "d"), ("set", "d", "e"), ("set", "e", "t"),
    ("sub", "n", "n", 1), ("jump", 0),
]

# What is said behind the loop is what the name held ahead of the last change.
LOST_COPY = [("set", "last", "n"), ("sub", "n", "n", 1), ("nought", "n", 4), ("jump", 0), ("say", "last"), ("say", "n")]

# A chain, and a name brought to two: c gets b, b gets a, d gets a, and a gets a number.
CHAIN = [
    ("nought", "n", 12), ("say", "a"), ("say", "b"), ("say", "c"), ("say", "d"),
    ("set", "c", "b"), ("set", "b", "a"), ("set", "d", "a"), ("set", "a", 7), ("say", "n"),
    ("sub", "n", "n", 1), ("jump", 0),
]

FORTY = [one + two for one in "abcd" for two in "qrstuvwxyz"]


def names_in(rows):
    """All names of rows of point 2."""
    found = set()
    for row in rows:
        parts = row[1:-1] if row[0] in ("jump", "nought") else row[1:]
        found.update(part for part in parts if type(part) is str)
    return found


def put(values, beginning):
    return {new: values.get(old, 0) for old, new in beginning.items()}


class Turned(unittest.TestCase):
    def rows_are_rows(self, rows):
        self.assertIs(type(rows), list)
        for row in rows:
            self.assertIs(type(row), tuple)
            self.assertEqual(WORDS.get(row[0]), len(row))
            if row[0] in ("jump", "nought"):
                self.assertIs(type(row[-1]), int)
                self.assertTrue(0 <= row[-1] <= len(rows))
        for name in names_in(rows):
            self.assertRegex(name, r"\A[a-z]{1,8}\Z")
        run(rows, {}, 0)

    def names_are_apart(self, form, names):
        beginning = form.behind(-1)
        self.assertEqual(set(names), set(form.written()) | beginning)
        groups = [set(marks) for marks in form.wanted] + [beginning]
        for place in form.reached:
            if place < len(form.rows) and writes(form.rows[place]) is not None:
                groups.append(form.behind(place) | {writes(form.rows[place])})
        for group in groups:
            self.assertEqual(len({names[mark] for mark in group}), len(group))
        self.assertLessEqual(len(set(names.values())), max(len(group) for group in groups))

    def check(self, rows):
        """All of point 16 but for what the rows tell; gives the rows and the names to begin with."""
        once = made(rows)
        short = shortened(once)
        kept, kept_short = Plain(once), Plain(short)
        names = names_by(short)
        told = turned_back(once)
        self.assertEqual((type(names), type(told), len(told), type(told[1])), (dict, tuple, 2, dict))
        back, beginning = told
        self.names_are_apart(kept_short, names)
        self.rows_are_rows(back)
        self.assertLessEqual(len(names_in(back) - set(names.values())), 1)
        self.assertEqual(beginning, {mark[0]: names[mark] for mark in kept_short.behind(-1)})
        self.assertEqual({mark[1] for mark in kept_short.behind(-1)} - {0}, set())
        # The same each time, and of the form and of its shortened one.
        for other in (once, short, made(list(rows)), shortened(short)):
            self.assertEqual(turned_back(other), told)
            self.assertEqual(names_by(shortened(other)), names)
            self.assertEqual(names_by(other), names)
        self.assertEqual((Plain(once), Plain(short)), (kept, kept_short))
        return back, beginning

    def tells(self, rows, back, beginning, values, many=(0, 1, 2, 7, 40, 250)):
        """What the rows told back say, and by how many steps: behind each of these numbers of steps, and at the end."""
        steps, ended = walk(rows, values, max(many))
        often = 2 * len(names_in(rows)) + 3
        begun = put(values, beginning)
        for k in [k for k in many if k < len(steps)] + [len(steps)]:
            said, end, done = run(back, begun, often * (k + 1))
            told = [number for _, numbers in steps[:k] for number in numbers]
            self.assertEqual(said[:len(told)], told)
            if k == len(steps) and ended:
                self.assertEqual((said, end), (told, "end"))

    def both(self, rows, *many_values):
        back, beginning = self.check(rows)
        for values in many_values:
            self.tells(rows, back, beginning, values)
        return back, beginning

    def test_no_rows_at_all(self):
        self.assertEqual(turned_back(made([])), ([], {}))
        self.assertEqual(names_by(shortened(made([]))), {})

    def test_each_kind_of_row(self):
        rows = [
            ("set", "a", "b"), ("say", "a"), ("add", "a", "a", 10 ** 21), ("say", "a"), ("sub", "b", 1, "a"), ("say", "b"),
            ("less", "c", "b", "a"), ("say", "c"), ("less", "c", "a", "a"), ("say", "c"), ("nought", "c", 12),
            ("say", 5), ("jump", 14), ("say", 6), ("stop",), ("say", 7),
        ]
        self.both(rows, {}, {"b": 4}, {"b": -(10 ** 21)})

    def test_rows_without_a_name(self):
        self.both([("say", 1), ("nought", 0, 3), ("say", 2), ("nought", 4, 0), ("say", 3)], {})

    def test_names_that_are_said_but_never_written(self):
        back, beginning = self.both([("say", "a"), ("say", "b"), ("say", "a")], {"a": 4, "b": 5}, {})
        self.assertEqual(sorted(beginning), ["a", "b"])
        self.assertEqual(len(set(beginning.values())), 2)

    def test_beginnings_that_are_not_wanted_are_not_told(self):
        rows = [("set", "a", 1), ("say", "a"), ("add", "b", "c", 1), ("set", "d", "e"), ("say", "d")]
        back, beginning = self.both(rows, {}, {"a": 8, "b": 8, "c": 8, "d": 8, "e": 3})
        self.assertEqual(list(beginning), ["e"])

    def test_beginnings_that_are_brought_to_place_0_alone(self):
        self.both(COUNTDOWN, {"n": 3}, {})
        rows = [("say", "a"), ("say", "b"), ("add", "a", "a", 1), ("add", "b", "b", 2), ("nought", "c", 0)]
        self.both(rows, {"a": 1, "b": 5}, {"c": 1})

    def test_loops_whose_names_swap(self):
        back, beginning = self.both(SWAPS, {"n": 3, "a": 1, "b": 2}, {"n": 4, "a": 10 ** 21, "b": -1})
        self.assertLessEqual(len(names_in(back)), 4)

    def test_rings_of_two_and_of_three_at_once(self):
        values = {"n": 7, "a": 1, "b": 2, "c": 3, "d": 4, "e": 5}
        back, beginning = self.both(RINGS, values, {"n": 1, "e": 9})
        self.assertEqual(len(names_in(back)), 7)

    def test_a_copy_that_is_said_behind_the_loop(self):
        self.both(LOST_COPY, {"n": 3}, {"n": 1})

    def test_a_chain_and_one_that_is_brought_to_two(self):
        self.both(CHAIN, {"n": 5, "a": 1, "b": 2, "c": 3, "d": 4})

    def test_numbers_that_joins_bring(self):
        self.both(DIAMOND, {"c": 0}, {"c": 1})
        self.both([("nought", "c", 2), ("set", "x", 10 ** 21), ("say", "x"), ("say", "c")], {"x": 3}, {"x": 3, "c": 1})

    def test_noughts_whose_goal_brings_something(self):
        rows = [("nought", "c", 3), ("say", "x"), ("set", "x", 5), ("say", "x"), ("sub", "c", "c", 1), ("nought", "d", 2)]
        self.both(rows, {"c": 2}, {"x": 7, "d": 1}, {"c": 1, "d": 1})

    def test_jumps_and_noughts_to_the_next_place_to_their_own_and_to_the_end(self):
        for goal in range(5):
            for row in (("jump", goal), ("nought", "a", goal), ("nought", "x", goal), ("nought", 0, goal)):
                rows = [("say", "x"), ("add", "x", "x", 1), row, ("say", "x")]
                self.both(rows, {}, {"a": 1}, {"x": -1})

    def test_a_stop_ahead_of_other_rows(self):
        self.both([("nought", "a", 3), ("say", "b"), ("stop",), ("say", 2), ("set", "b", 1), ("jump", 1)], {}, {"a": 1})

    def test_rows_that_are_not_reached_are_left_out(self):
        back, beginning = self.both([("jump", 3), ("say", "a"), ("jump", 1), ("say", "b"), ("jump", 6), ("say", "c")], {})
        self.assertEqual(list(beginning), ["b"])

    def test_forty_names_at_once(self):
        rows = [("add", one, one, two) for one, two in zip(FORTY, FORTY[1:])] + [("nought", FORTY[39], 0)]
        rows += [("say", name) for name in FORTY[:20]]
        self.both(rows, {name: 10 ** 21 + at for at, name in enumerate(FORTY)}, {})
        swaps = [("set", one, two) for one, two in zip(["t"] + FORTY, FORTY + ["t"])] + [("say", FORTY[7]), ("nought", "c", 0)]
        back, beginning = self.both(swaps, {name: at for at, name in enumerate(FORTY)}, {"c": 1})

    def test_a_mark_and_what_is_wanted_behind_the_row_that_writes_it(self):
        rows = [("add", "b", "a", 1), ("say", "b"), ("say", "a")]
        names = names_by(shortened(made(rows)))
        self.assertNotEqual(names[("a", 0)], names[("b", 1)])
        rows = [("add", "b", "a", 1), ("say", "b")]
        names = names_by(shortened(made(rows)))
        self.assertEqual(names[("a", 0)], names[("b", 1)])

    def test_what_is_told_may_be_changed(self):
        once = made(SWAPS)
        told, names = turned_back(once), names_by(shortened(once))
        told[0].append("changed")
        told[1]["changed"] = 1
        names["changed"] = 1
        self.assertNotIn("changed", names_by(shortened(once)))
        self.assertNotIn("changed", turned_back(once)[0])
        self.assertNotIn("changed", turned_back(once)[1])
        self.check(SWAPS)

    def test_many_drawn_rows(self):
        chance = random.Random(161)
        for number in range(500):
            rows = loops(chance, most=40) if number % 2 else drawn(chance, most=14, names="abcd")
            with self.subTest(rows=rows):
                self.both(rows, *beginnings(chance))

    def test_the_longest_rows_with_many_names(self):
        chance = random.Random(162)
        for number in range(30):
            rows = drawn(chance, most=60, least=55, names=FORTY)
            with self.subTest(rows=rows):
                self.both(rows, *beginnings(chance, FORTY))

    def test_rows_and_forms_tell_the_same_as_the_rows_told_back(self):
        chance = random.Random(163)
        for number in range(200):
            rows = loops(chance)
            back, beginning = turned_back(made(rows))
            for values in beginnings(chance):
                told = run(rows, values, 400)
                if told[1] == "end":
                    said, end, done = run(back, put(values, beginning), (2 * len(names_in(rows)) + 3) * (told[2] + 1))
                    self.assertEqual((said, end), told[:2])
                    self.assertEqual(run_once(shortened(made(rows)), values, told[2])[:2], told[:2])

    def test_few_rows_of_all_kinds(self):
        operands = ("a", "b", 1)
        kinds = [("set", "a", one) for one in operands] + [("set", "b", "a"), ("add", "a", "a", "b"), ("say", "a"), ("say", "b")]
        kinds += [("jump", goal) for goal in (0, 3)] + [("nought", "a", goal) for goal in (0, 1, 3)]
        for rows in itertools.product(kinds, repeat=3):
            back, beginning = turned_back(made(list(rows)))
            for values in ({"a": 1, "b": -1}, {"b": 2}):
                self.tells(list(rows), back, beginning, values, (0, 1, 2, 3, 9, 20))


if __name__ == "__main__":
    unittest.main()
