"""Points 10, 11 and 12: forms that are run, and the ways that meet in their joins."""

import copy
import random
import unittest

from joinmarks.errors import BadPlace, NoJoin, RowError
from joinmarks.once import made
from joinmarks.rows import run
from joinmarks.running import meeting, run_once
from slow import Alike, Plain, beginnings, drawn, follow, insisting, leads_to, loops, saying, under, writes
from test_form import DIAMOND, NO_PLACES

COUNTDOWN = [("nought", "n", 4), ("say", "n"), ("sub", "n", "n", 1), ("jump", 0)]

# Each round the two names change what they hold: joins that aren't written at once go wrong here.
SWAPS = [
    ("nought", "n", 8), ("say", "a"), ("say", "b"), ("set", "t", "a"), ("set", "a", "b"), ("set", "b", "t"),
    ("sub", "n", "n", 1), ("jump", 0),
]


class Running(unittest.TestCase):
    def test_no_rows_at_all(self):
        self.assertEqual(run_once(made([]), {}, 0), ([], "end", 0))
        self.assertEqual(run_once(made([]), {"a": 1}, 5), ([], "end", 0))

    def test_each_kind_of_row(self):
        rows = [
            ("set", "a", "b"), ("say", "a"), ("add", "a", "a", 10 ** 21), ("say", "a"), ("sub", "b", 1, "a"), ("say", "b"),
            ("less", "c", "b", "a"), ("say", "c"), ("less", "c", "a", "a"), ("say", "c"), ("nought", "c", 12),
            ("say", 5), ("jump", 14), ("say", 6), ("stop",), ("say", 7),
        ]
        told = ([4, 10 ** 21 + 4, -(10 ** 21) - 3, 1, 0], "end", 13)
        self.assertEqual(run_once(made(rows), {"b": 4}, 100), told)
        self.assertEqual(run(rows, {"b": 4}, 100), told)

    def test_a_tuple_of_a_list_a_text_and_a_number(self):
        told = run_once(made(COUNTDOWN), {"n": 1}, 9)
        self.assertEqual([type(part) for part in (told,) + told], [tuple, list, str, int])

    def test_a_loop(self):
        self.assertEqual(run_once(made(COUNTDOWN), {"n": 2}, 100), ([2, 1], "end", 9))
        self.assertEqual(run_once(made(COUNTDOWN), {"n": 2}, 3), ([2], "tired", 3))
        self.assertEqual(run_once(made(COUNTDOWN), {}, 100), ([], "end", 1))

    def test_steps_at_the_edge(self):
        self.assertEqual(run_once(made(COUNTDOWN), {"n": 2}, 9), ([2, 1], "end", 9))
        self.assertEqual(run_once(made(COUNTDOWN), {"n": 2}, 8), ([2, 1], "tired", 8))
        self.assertEqual(run_once(made(COUNTDOWN), {"n": 2}, 0), ([], "tired", 0))

    def test_a_loop_that_never_ends(self):
        self.assertEqual(run_once(made([("say", "a"), ("add", "a", "a", 1), ("jump", 0)]), {}, 7), ([0, 1, 2], "tired", 7))
        self.assertEqual(run_once(made([("jump", 0)]), {}, 50), ([], "tired", 50))

    def test_joins_bring_what_comes_from_where_one_came(self):
        rows = DIAMOND + [("say", "c")]
        self.assertEqual(run_once(made(rows), {"c": 0}, 9), ([2, 0], "end", 4))
        self.assertEqual(run_once(made(rows), {"c": 7}, 9), ([1, 7], "end", 5))

    def test_joins_of_a_place_are_written_at_once(self):
        values = {"n": 3, "a": 10 ** 21, "b": -5}
        told = [10 ** 21, -5, -5, 10 ** 21, 10 ** 21, -5]
        self.assertEqual(run_once(made(SWAPS), values, 100), (told, "end", 25))

    def test_names_that_are_no_names_of_the_rows_change_nothing(self):
        self.assertEqual(run_once(made(COUNTDOWN), {"n": 1, "zz": 4}, 9), ([1], "end", 5))

    def test_many_drawn_rows_as_the_rows_themselves(self):
        chance = random.Random(12)
        for number in range(600):
            rows = loops(chance) if number % 2 else drawn(chance, most=14, names="abcd")
            once = made(rows)
            with self.subTest(rows=rows):
                for values in beginnings(chance):
                    for most in (0, 1, 2, 5, 17, 60, 300):
                        self.assertEqual(run_once(once, values, most), run(rows, values, most))


class WhatIsHandedInAndTold(unittest.TestCase):
    def test_a_form_is_run_again(self):
        once = made(SWAPS)
        kept = Plain(once)
        first = run_once(once, {"n": 2, "a": 1}, 100)
        self.assertEqual(run_once(once, {"n": 1, "b": 4}, 100), run(SWAPS, {"n": 1, "b": 4}, 100))
        self.assertEqual(run_once(once, {"n": 2, "a": 1}, 100), first)
        self.assertEqual(Plain(once), kept)

    def test_values_stay_as_they_were(self):
        values = {"n": 2, "a": 7}
        told = run_once(made(SWAPS), values, 100)
        self.assertEqual(values, {"n": 2, "a": 7})
        kept = copy.deepcopy(told)
        values["n"] = 9
        self.assertEqual(told, kept)

    def test_what_was_told_may_be_changed(self):
        once = made(SWAPS)
        kept = Plain(once)
        run_once(once, {"n": 1}, 100)[0].append("changed")
        self.assertEqual(run_once(once, {"n": 1}, 100), ([0, 0], "end", 9))
        ways = meeting(once, 0, "n")
        for way in ways:
            way.append("changed")
        ways.append("changed")
        self.assertEqual(len(meeting(once, 0, "n")), 2)
        self.assertNotIn("changed", meeting(once, 0, "n")[0])
        self.assertEqual(Plain(once), kept)


class Meeting(unittest.TestCase):
    def check(self, rows, place, name, ways):
        self.assertEqual((type(ways), [type(way) for way in ways]), (list, [list, list]))
        once = made(rows)
        joins = [at for at in range(len(rows) + 1) if name in [mark[0] for mark, _ in once.joins(at)]]
        for way in ways:
            self.assertGreater(len(way), 1)
            self.assertEqual(way[-1], place)
            for at, after in zip(way, way[1:]):
                self.assertIn(after, follow(rows, at))
            start = way[0]
            row_writes = start in leads_to(rows) and writes(rows[start]) == name
            self.assertTrue(start == -1 or row_writes or start in joins)
            self.assertNotIn(name, [writes(rows[at]) for at in way[1:-1]])
        self.assertNotEqual(ways[0][0], ways[1][0])
        self.assertEqual(set(ways[0][:-1]) & set(ways[1][:-1]), set())

    def told(self, rows, place, name):
        ways = meeting(made(rows), place, name)
        self.check(rows, place, name, ways)
        return sorted(ways)

    def test_two_rows(self):
        self.assertEqual(self.told(DIAMOND, 4, "x"), [[1, 2, 4], [3, 4]])

    def test_the_beginning_and_a_row(self):
        self.assertEqual(self.told(COUNTDOWN, 0, "n"), [[-1, 0], [2, 3, 0]])

    def test_a_row_at_the_place_itself(self):
        rows = [("add", "n", "n", 1), ("nought", "c", 0), ("say", "n")]
        self.assertEqual(self.told(rows, 0, "n"), [[-1, 0], [0, 1, 0]])

    def test_a_row_that_goes_round_by_way_of_the_other_way(self):
        # The short way from the beginning, by place 2, bars the one that the row at 4 needs.
        rows = [
            ("nought", "a", 2), ("jump", 3), ("nought", "b", 5), ("jump", 6), ("set", "x", 1), ("jump", 6), ("say", "x"),
            ("nought", "c", 4), ("stop",),
        ]
        self.told(rows, 6, "x")

    def test_a_join_behind_a_join(self):
        rows = DIAMOND[:4] + [("nought", "d", 6), ("set", "x", 3), ("say", "x")]
        self.told(rows, 4, "x")
        self.told(rows, 6, "x")

    def test_a_loop_that_is_come_into_at_two_places(self):
        rows = [("nought", "c", 3), ("set", "x", 1), ("say", "x"), ("say", "x"), ("nought", "d", 2)]
        self.assertEqual(self.told(rows, 2, "x"), [[-1, 0, 3, 4, 2], [1, 2]])
        self.assertEqual(self.told(rows, 3, "x"), [[-1, 0, 3], [1, 2, 3]])

    def test_all_joins_of_many_drawn_rows(self):
        chance = random.Random(13)
        many = 0
        for number in range(500):
            rows = loops(chance) if number % 4 == 0 else drawn(chance, most=14, names="abcd")
            once = made(rows)
            with self.subTest(rows=rows):
                for place in range(len(rows) + 1):
                    for mark, _ in once.joins(place):
                        self.check(rows, place, mark[0], meeting(once, place, mark[0]))
                        many += 1
        self.assertGreater(many, 500)


class Refusals(unittest.TestCase):
    def refused(self, kind, *told):
        with self.assertRaises(RowError) as caught:
            meeting(*told)
        self.assertIs(type(caught.exception), kind)
        self.assertIsInstance(caught.exception, ValueError)
        str(caught.exception)

    def test_no_place(self):
        once = made(DIAMOND)
        for place in NO_PLACES:
            for name in ("x", "y", None, []):
                self.refused(BadPlace, once, place, name)
        self.refused(BadPlace, made([]), 1, "x")

    def test_no_join_of_the_name(self):
        once = made(DIAMOND)
        for place in (0, 1, 2, 3, 5):
            self.refused(NoJoin, once, place, "x")
        self.refused(NoJoin, once, 4, "c")
        self.refused(NoJoin, once, 4, "y")
        self.refused(NoJoin, made([]), 0, "x")
        self.refused(NoJoin, made([("jump", 2), ("set", "x", 1), ("say", "x")]), 1, "x")

    def test_what_is_no_name(self):
        once = made(DIAMOND)
        for name in ("", "X", "x ", "xxxxxxxxx", b"x", 0, 1, True, None, 1.5, ("x",), ("x", 3), ["x"], {"x": 1}, {"x"},
                     object(), Alike(), str, saying(str), insisting(str), *under(str, "x")):
            self.refused(NoJoin, once, 4, name)


if __name__ == "__main__":
    unittest.main()
