"""Points 13, 14 and 15: the shortened form."""

import random
import unittest

from joinmarks.errors import BadPlace
from joinmarks.once import Once, made
from joinmarks.running import run_once
from joinmarks.short import shortened
from slow import Plain, beginnings, drawn, loops, made_shorter, walk
from test_form import DIAMOND, NO_PLACES, joins_of, rows_of

PASS = ("pass",)


def short_of(rows):
    once = shortened(made(rows))
    return rows_of(once), {place: stand for place, stand in enumerate(joins_of(once)) if stand}


class Copies(unittest.TestCase):
    def test_no_rows_at_all(self):
        once = shortened(made([]))
        self.assertIsInstance(once, Once)
        self.assertEqual((once.size, once.joins(0), once.wanted(0)), (0, [], []))

    def test_what_a_set_row_puts_in_is_passed_on(self):
        self.assertEqual(short_of([("set", "a", "b"), ("say", "a")]), ([PASS, ("say", ("b", 0))], {}))
        self.assertEqual(short_of([("set", "a", 10 ** 21), ("say", "a")]), ([PASS, ("say", 10 ** 21)], {}))

    def test_copies_of_copies(self):
        rows = [("set", "a", "b"), ("set", "c", "a"), ("set", "b", "c"), ("set", "a", 5), ("set", "d", "a"), ("say", "b"),
                ("say", "d")]
        self.assertEqual(short_of(rows), ([PASS] * 5 + [("say", ("b", 0)), ("say", 5)], {}))

    def test_whatever_asks(self):
        rows = [("set", "a", "x"), ("set", "b", 0), ("add", "c", "a", "b"), ("sub", "d", "b", "a"), ("less", "e", "a", "a"),
                ("nought", "b", 8), ("nought", "a", 8), ("say", "a"), ("say", "c"), ("say", "d"), ("say", "e")]
        self.assertEqual(short_of(rows), ([
            PASS, PASS, ("add", ("c", 1), ("x", 0), 0), ("sub", ("d", 1), 0, ("x", 0)), ("less", ("e", 1), ("x", 0), ("x", 0)),
            ("nought", 0, 8), ("nought", ("x", 0), 8), ("say", ("x", 0)), ("say", ("c", 1)), ("say", ("d", 1)),
            ("say", ("e", 1)),
        ], {}))

    def test_joins_ask_numbers_and_what_was_copied(self):
        self.assertEqual(short_of(DIAMOND), (
            [("nought", ("c", 0), 3), PASS, ("jump", 4), PASS, ("say", ("x", 3))], {4: [(("x", 3), [(2, 1), (3, 2)])]},
        ))
        rows = DIAMOND[:3] + [("set", "x", "y"), ("say", "x")]
        self.assertEqual(short_of(rows)[1], {4: [(("x", 3), [(2, 1), (3, ("y", 0))])]})

    def test_a_join_that_is_brought_one_and_the_same_number(self):
        rows = DIAMOND[:3] + [("set", "x", 1), ("say", "x")]
        self.assertEqual(short_of(rows), ([("nought", ("c", 0), 3), PASS, ("jump", 4), PASS, ("say", 1)], {}))

    def test_a_join_that_is_brought_one_and_the_same_mark(self):
        rows = [("nought", "c", 3), ("set", "x", "y"), ("jump", 4), ("set", "x", "y"), ("say", "x")]
        self.assertEqual(short_of(rows)[0][4], ("say", ("y", 0)))
        rows = [("nought", "c", 2), ("set", "x", "x"), ("say", "x")]
        self.assertEqual(short_of(rows), ([("nought", ("c", 0), 2), PASS, ("say", ("x", 0))], {}))

    def test_the_mark_of_a_join_itself_is_set_aside(self):
        rows = [("say", "x"), ("set", "y", "x"), ("set", "x", "y"), ("nought", "c", 0), ("say", "y")]
        self.assertEqual(short_of(rows), ([("say", ("x", 0)), PASS, PASS, ("nought", ("c", 0), 0), ("say", ("x", 0))], {}))

    def test_a_join_that_is_a_copy_once_another_one_is(self):
        rows = [
            ("nought", "c", 3), ("set", "x", 7), ("jump", 4), ("set", "x", 7),
            ("nought", "d", 6), ("set", "x", 7), ("nought", "e", 8), ("say", "x"),
        ]
        self.assertEqual(made(rows).joins(6)[0][1][0], (4, ("x", 3)))
        self.assertEqual(short_of(rows)[0][7], ("say", 7))
        self.assertEqual(short_of(rows)[1], {})

    def test_two_joins_that_bring_each_other_stay(self):
        rows = [("nought", "c", 3), ("set", "x", 1), ("say", "x"), ("say", "x"), ("nought", "d", 2)]
        self.assertEqual(short_of(rows)[1], {
            2: [(("x", 2), [(1, 1), (4, ("x", 3))])], 3: [(("x", 3), [(0, ("x", 0)), (2, ("x", 2))])],
        })

    def test_joins_that_are_brought_different_things_stay(self):
        rows = [("nought", "c", 2), ("set", "x", 0), ("say", "x")]
        self.assertEqual(short_of(rows)[1], {2: [(("x", 2), [(0, ("x", 0)), (1, 0)])]})

    def test_names_that_change_what_they_hold(self):
        rows = [("say", "a"), ("set", "t", "a"), ("set", "a", "b"), ("set", "b", "t"), ("nought", "n", 0)]
        self.assertEqual(short_of(rows)[1], {0: [
            (("a", 1), [(-1, ("a", 0)), (4, ("b", 1))]), (("b", 1), [(-1, ("b", 0)), (4, ("a", 1))]),
        ]})


class Needed(unittest.TestCase):
    def test_what_is_never_said_or_asked_is_left_out(self):
        self.assertEqual(short_of([("add", "a", "b", 1), ("less", "c", "a", 2), ("say", "b")]), (
            [PASS, PASS, ("say", ("b", 0))], {},
        ))

    def test_what_is_asked_by_what_is_needed_is_needed(self):
        rows = [("add", "a", "b", 1), ("less", "c", "a", 2), ("nought", "c", 0)]
        self.assertEqual(rows_of(shortened(made(rows)))[:2], [("add", ("a", 1), ("b", 0), 1), ("less", ("c", 1), ("a", 1), 2)])

    def test_what_is_asked_through_a_join(self):
        rows = [("nought", "c", 3), ("add", "x", 1, 2), ("jump", 4), ("add", "x", 3, 4), ("add", "y", "x", 1), ("say", "y")]
        self.assertEqual(rows_of(shortened(made(rows)))[1], ("add", ("x", 1), 1, 2))
        self.assertEqual(short_of(rows[:5] + [("say", "x")])[0][4], PASS)
        self.assertEqual(short_of(rows[:5]), ([("nought", ("c", 0), 3), PASS, ("jump", 4), PASS, PASS], {}))

    def test_joins_and_rows_that_ask_each_other_alone_are_left_out(self):
        rows = [("add", "a", "a", 1), ("nought", "c", 0), ("say", 1)]
        self.assertEqual(short_of(rows), ([PASS, ("nought", ("c", 0), 0), ("say", 1)], {}))

    def test_what_writes_nothing_stays_at_its_place(self):
        rows = [("nought", 0, 1), ("jump", 2), ("say", 4), ("nought", "a", 5), ("stop",), ("jump", 6)]
        self.assertEqual(short_of(rows), ([row if row[1:2] != ("a",) else ("nought", ("a", 0), 5) for row in rows], {}))

    def test_rows_that_are_not_reached_stay_none(self):
        self.assertEqual(short_of([("jump", 2), ("set", "a", 1), ("set", "a", 2)]), ([("jump", 2), None, PASS], {}))

    def test_wanted_behind_the_joins(self):
        once = shortened(made(DIAMOND + [("set", "y", "c"), ("say", "y")]))
        self.assertEqual([once.wanted(place) for place in range(8)], [
            [("c", 0)], [("c", 0)], [("c", 0)], [("c", 0)], [("c", 0), ("x", 3)], [("c", 0)], [("c", 0)], [],
        ])

    def test_no_place_of_it(self):
        once = shortened(made(DIAMOND))
        for place in NO_PLACES:
            for ask in (once.row, once.joins, once.wanted):
                with self.assertRaises(BadPlace) as caught:
                    ask(place)
                self.assertIs(type(caught.exception), BadPlace)
        self.assertRaises(BadPlace, once.row, 5)
        self.assertEqual((once.size, vars(once)["size"], once.joins(5), once.wanted(5)), (5, 5, [], []))


class Running(unittest.TestCase):
    def test_rows_left_out_are_no_steps(self):
        once = shortened(made([("set", "a", 1), ("add", "b", "a", 1), ("say", "a"), ("set", "c", 1)]))
        self.assertEqual(run_once(once, {}, 9), ([1], "end", 1))
        self.assertEqual(run_once(once, {}, 1), ([1], "end", 1))
        self.assertEqual(run_once(once, {}, 0), ([], "tired", 0))

    def test_rows_left_out_do_not_tire(self):
        self.assertEqual(run_once(shortened(made([("set", "a", 1), ("set", "b", "a")])), {}, 0), ([], "end", 0))

    def test_joins_at_a_row_left_out_are_written(self):
        rows = DIAMOND[:4] + [("set", "y", "x"), ("say", "y")]
        once = shortened(made(rows))
        self.assertEqual((once.row(4), len(once.joins(4))), (PASS, 1))
        self.assertEqual(run_once(once, {"c": 1}, 9), ([1], "end", 3))
        self.assertEqual(run_once(once, {}, 9), ([2], "end", 2))


class ManyRows(unittest.TestCase):
    def drawn(self, seed, many):
        chance = random.Random(seed)
        for number in range(many):
            rows = loops(chance) if number % 2 else drawn(chance, most=14, names="abcd")
            with self.subTest(rows=rows):
                yield rows, chance

    def test_against_a_slow_reading(self):
        for rows, chance in self.drawn(14, 500):
            plain = Plain(made(rows))
            short = Plain(shortened(made(rows)))
            self.assertEqual((short.rows, short.joins), made_shorter(plain))

    def test_a_form_stays_as_it_is_and_does_not_hang_on_its_shortened_one(self):
        for rows, chance in self.drawn(15, 100):
            once = made(rows)
            kept = Plain(once)
            short = shortened(once)
            self.assertEqual(Plain(once), kept)
            for place in range(short.size + 1):
                short.wanted(place).append("changed")
                for _, pairs in short.joins(place):
                    pairs.append("changed")
            self.assertEqual(Plain(once), kept)
            self.assertEqual(Plain(short), Plain(shortened(once)))

    def test_a_shortened_form_shortened_once_more_is_the_same(self):
        for rows, chance in self.drawn(16, 300):
            short = shortened(made(rows))
            self.assertEqual(Plain(shortened(short)), Plain(short))

    def test_wanted_of_a_shortened_form(self):
        for rows, chance in self.drawn(17, 150):
            form = Plain(shortened(made(rows)))
            wanting = {mark: [at for at in form.reached if form.reads_on(at, mark)] for mark in form.asked}
            for place, wanted in enumerate(form.wanted):
                self.assertEqual(wanted, sorted(mark for mark in form.asked if place in wanting[mark]))

    def test_what_is_told_and_in_how_many_steps(self):
        for rows, chance in self.drawn(18, 500):
            short = shortened(made(rows))
            for values in beginnings(chance):
                steps, ended = walk(rows, values, 1500)
                self.steps_told(short, values, steps, ended)

    def steps_told(self, short, values, steps, ended):
        kept = [said for place, said in steps if short.row(place) != PASS]
        for most in (0, 1, 3, 17, 90, 1500):
            if len(kept) > most:
                end, done = "tired", most
            elif ended:
                end, done = "end", len(kept)
            else:
                continue
            told = [number for said in kept[:done] for number in said]
            self.assertEqual(run_once(short, values, most), (told, end, done))


if __name__ == "__main__":
    unittest.main()
