"""Points 4, 8, 9, 11 and 15: the form, its joins, and the marks that are wanted in it."""

import copy
import random
import unittest

from joinmarks.errors import BadPlace, RowError, TooMany
from joinmarks.once import Once, made
from joinmarks.ways import names_wanted
from slow import Alike, Plain, come_from, drawn, insisting, joined, leads_to, loops, saying, under

COUNTDOWN = [("nought", "n", 4), ("say", "n"), ("sub", "n", "n", 1), ("jump", 0)]

DIAMOND = [("nought", "c", 3), ("set", "x", 1), ("jump", 4), ("set", "x", 2), ("say", "x")]


def rows_of(once):
    return [once.row(place) for place in range(once.size)]


def joins_of(once):
    return [once.joins(place) for place in range(once.size + 1)]


def names_joined(rows):
    """The places that have joins, with the names of these."""
    joins = joins_of(made(rows))
    return {place: [mark[0] for mark, _ in stand] for place, stand in enumerate(joins) if stand}


class Rows(unittest.TestCase):
    def test_no_rows_at_all(self):
        once = made([])
        self.assertIsInstance(once, Once)
        self.assertEqual(once.size, 0)
        self.assertEqual(once.joins(0), [])
        self.assertEqual(once.wanted(0), [])

    def test_each_kind_of_row(self):
        rows = [
            ("set", "a", 5), ("set", "a", "b"), ("add", "a", "a", "b"), ("sub", "b", 1, "a"), ("less", "a", "a", 7),
            ("say", "a"), ("say", 10 ** 21), ("nought", "b", 8), ("nought", 0, 9), ("jump", 10), ("stop",),
        ]
        self.assertEqual(rows_of(made(rows)), [
            ("set", ("a", 1), 5), ("set", ("a", 2), ("b", 0)), ("add", ("a", 3), ("a", 2), ("b", 0)),
            ("sub", ("b", 1), 1, ("a", 3)), ("less", ("a", 4), ("a", 3), 7), ("say", ("a", 4)), ("say", 10 ** 21),
            ("nought", ("b", 1), 8), ("nought", 0, 9), ("jump", 10), ("stop",),
        ])

    def test_names_that_are_said_but_never_written_are_those_of_the_beginning(self):
        once = made([("say", "a"), ("nought", "b", 0), ("say", "a")])
        self.assertEqual(rows_of(once), [("say", ("a", 0)), ("nought", ("b", 0), 0), ("say", ("a", 0))])
        self.assertEqual(joins_of(once), [[], [], [], []])

    def test_rows_that_are_not_reached_are_none(self):
        once = made([("jump", 3), ("set", "a", 1), ("jump", 1), ("say", "a"), ("stop",), ("say", "a")])
        self.assertEqual(rows_of(once), [("jump", 3), None, None, ("say", ("a", 0)), ("stop",), None])

    def test_size_is_how_many_rows(self):
        for many in (0, 1, 2, 59, 60):
            once = made([("say", "a")] * many)
            self.assertEqual(once.size, many)
            self.assertEqual(vars(once)["size"], many)


class Joins(unittest.TestCase):
    def test_two_rows_that_write(self):
        once = made(DIAMOND)
        self.assertEqual(joins_of(once)[:4] + joins_of(once)[5:], [[], [], [], [], []])
        self.assertEqual(once.joins(4), [(("x", 3), [(2, ("x", 1)), (3, ("x", 2))])])
        self.assertEqual(once.row(4), ("say", ("x", 3)))

    def test_the_beginning_is_a_write(self):
        once = made([("nought", "c", 2), ("set", "x", 1), ("say", "x")])
        self.assertEqual(once.joins(2), [(("x", 2), [(0, ("x", 0)), (1, ("x", 1))])])

    def test_the_beginning_brings_to_place_0(self):
        once = made(COUNTDOWN)
        self.assertEqual(once.joins(0), [(("n", 1), [(-1, ("n", 0)), (3, ("n", 2))])])
        self.assertEqual(rows_of(once), [
            ("nought", ("n", 1), 4), ("say", ("n", 1)), ("sub", ("n", 2), ("n", 1), 1), ("jump", 0),
        ])

    def test_a_row_that_writes_at_the_place_of_the_join(self):
        once = made([("add", "n", "n", 1), ("nought", "c", 0), ("say", "n")])
        self.assertEqual(once.joins(0), [(("n", 1), [(-1, ("n", 0)), (1, ("n", 2))])])
        self.assertEqual(once.row(0), ("add", ("n", 2), ("n", 1), 1))
        self.assertEqual(once.row(2), ("say", ("n", 2)))

    def test_a_join_is_a_write(self):
        rows = [
            ("nought", "c", 3), ("set", "x", 1), ("jump", 4), ("set", "x", 2),
            ("nought", "d", 6), ("set", "x", 3), ("say", "x"),
        ]
        once = made(rows)
        self.assertEqual(once.joins(4), [(("x", 3), [(2, ("x", 1)), (3, ("x", 2))])])
        self.assertEqual(once.joins(6), [(("x", 5), [(4, ("x", 3)), (5, ("x", 4))])])

    def test_joins_are_told_by_their_names_rising(self):
        names = ["b", "z", "aa", "a", "ab"]
        rows = [("nought", "n", 6)] + [("set", name, 1) for name in names] + [("say", name) for name in names]
        self.assertEqual(names_joined(rows), {6: ["a", "aa", "ab", "b", "z"]})

    def test_one_pair_for_each_place_it_can_be_come_to_from(self):
        rows = [("nought", "a", 5), ("set", "x", 1), ("nought", "b", 5), ("nought", "c", 5), ("set", "x", 2), ("say", "x")]
        self.assertEqual(made(rows).joins(5), [
            (("x", 3), [(0, ("x", 0)), (2, ("x", 1)), (3, ("x", 1)), (4, ("x", 2))]),
        ])

    def test_places_that_are_not_reached_bring_nothing_and_write_nothing(self):
        self.assertEqual(names_joined([("jump", 2), ("set", "x", 1), ("say", "x")]), {})
        rows = [("nought", "c", 4), ("set", "x", 1), ("jump", 4), ("set", "x", 2), ("say", "x")]
        self.assertEqual(made(rows).joins(4), [(("x", 2), [(0, ("x", 0)), (2, ("x", 1))])])

    def test_none_where_the_name_is_not_wanted(self):
        self.assertEqual(names_joined(DIAMOND[:4] + [("say", "y")]), {})
        self.assertEqual(names_joined(DIAMOND[:4] + [("set", "x", 3), ("say", "x")]), {})
        self.assertEqual(names_joined([("set", "x", 1), ("nought", "c", 0), ("say", "x")]), {})

    def test_none_where_ways_meet_that_come_from_one_write(self):
        self.assertEqual(names_joined([("set", "x", 1), ("nought", "c", 3), ("say", 1), ("say", "x")]), {})
        self.assertEqual(names_joined([("nought", "c", 2), ("say", 1), ("say", "x")]), {})
        self.assertEqual(names_joined([("set", "x", 1), ("say", "x"), ("nought", "c", 1)]), {})

    def test_none_for_a_name_that_is_never_written(self):
        self.assertEqual(names_joined([("say", "x"), ("nought", "c", 0), ("jump", 0)]), {})

    def test_none_behind_the_place_where_the_ways_met(self):
        rows = DIAMOND + [("say", "x"), ("nought", "c", 8), ("say", 1), ("say", "x")]
        self.assertEqual(names_joined(rows), {4: ["x"]})

    def test_jumps_and_noughts_to_the_next_place_to_their_own_and_to_the_end(self):
        self.assertEqual(names_joined([("set", "x", 1), ("nought", "c", 2), ("jump", 3), ("say", "x")]), {})
        self.assertEqual(names_joined([("set", "x", 1), ("nought", "x", 1), ("say", "x")]), {})
        self.assertEqual(names_joined([("say", "x"), ("set", "x", 1), ("jump", 2)]), {})
        self.assertEqual(names_joined([("nought", "c", 3), ("set", "x", 1), ("say", "x")]), {})
        self.assertEqual(names_joined([("nought", "c", 2), ("set", "x", 1), ("nought", "x", 2), ("say", "x")]), {2: ["x"]})

    def test_a_loop_that_is_come_into_at_two_places(self):
        rows = [("nought", "c", 3), ("set", "x", 1), ("say", "x"), ("say", "x"), ("nought", "d", 2)]
        once = made(rows)
        self.assertEqual(once.joins(2), [(("x", 2), [(1, ("x", 1)), (4, ("x", 3))])])
        self.assertEqual(once.joins(3), [(("x", 3), [(0, ("x", 0)), (2, ("x", 2))])])

    def test_a_write_that_is_never_gone_round_needs_no_join(self):
        rows = [("say", "x"), ("nought", "c", 0), ("nought", "d", 4), ("jump", 2), ("set", "x", 1), ("say", "x")]
        self.assertEqual(names_joined(rows), {})

    def test_many_drawn_rows_against_a_slow_reading(self):
        chance = random.Random(11)
        for number in range(700):
            rows = drawn(chance, most=8, names="ab")
            with self.subTest(rows=rows):
                joins = {name: joined(rows, name) for name in "ab"}
                told = [[mark[0] for mark, _ in stand] for stand in joins_of(made(rows))]
                places = range(len(rows) + 1)
                self.assertEqual(told, [[name for name in "ab" if at in joins[name]] for at in places])


class Marks(unittest.TestCase):
    def check(self, rows):
        """Points 8 and 9, and that whatever is brought or read is what was written last on all ways."""
        form, places = Plain(made(rows)), leads_to(rows)
        self.assertEqual(len(form.rows), len(rows))
        for place, (row, marked) in enumerate(zip(rows, form.rows)):
            self.assertEqual(marked is None, place not in places)
            if marked is not None:
                self.assertIs(type(marked), tuple)
                self.assertEqual(tuple(part[0] if type(part) is tuple else part for part in marked), row)
        written = form.written()
        self.assertEqual(len(written), len(set(written)))
        for mark in written + sorted(form.asked):
            self.assertEqual((type(mark), type(mark[0]), type(mark[1]), len(mark)), (tuple, str, int, 2))
        self.assertTrue(all(mark[1] > 0 for mark in written))
        self.assertEqual({mark for mark in form.asked if mark[1]} - set(written), set())
        for place, stand in enumerate(form.joins):
            self.assertEqual([mark[0] for mark, _ in stand], sorted({mark[0] for mark, _ in stand}))
            for join in stand:
                self.assertEqual((type(join), type(join[1])), (tuple, list))
                self.assertEqual([pair[0] for pair in join[1]], come_from(rows, place))
                self.assertEqual({(type(pair), pair[1][0]) for pair in join[1]}, {(tuple, join[0][0])})

    def test_many_drawn_rows(self):
        chance = random.Random(9)
        for number in range(400):
            rows = loops(chance) if number % 4 == 0 else drawn(chance, most=14, names="abcd")
            with self.subTest(rows=rows):
                self.check(rows)

    def test_forty_names_at_once(self):
        names = [one + two for one in "abcd" for two in "qrstuvwxyz"]
        rows = [("add", one, one, two) for one, two in zip(names, names[1:])] + [("nought", names[39], 0)]
        rows += [("nought", names[0], 0)] + [("say", name) for name in names[:15]]
        self.check(rows)
        self.assertEqual(len(made(rows).wanted(0)), 40)
        self.assertEqual([mark[0] for mark, _ in made(rows).joins(0)], names[:39])


class Wanted(unittest.TestCase):
    def test_what_rows_read_on_from_there(self):
        once = made([("set", "a", 1), ("say", "a"), ("set", "a", 2), ("add", "b", "a", "c"), ("say", "a")])
        self.assertEqual([once.wanted(place) for place in range(6)], [
            [("c", 0)], [("a", 1), ("c", 0)], [("c", 0)], [("a", 2), ("c", 0)], [("a", 2)], [],
        ])

    def test_behind_the_joins_of_the_place(self):
        once = made(COUNTDOWN)
        self.assertEqual([once.wanted(place) for place in range(5)], [
            [("n", 1)], [("n", 1)], [("n", 1)], [("n", 2)], [],
        ])

    def test_what_is_brought_is_wanted_where_one_comes_from(self):
        once = made(DIAMOND)
        self.assertEqual([once.wanted(place) for place in range(6)], [
            [("c", 0)], [], [("x", 1)], [], [("x", 3)], [],
        ])

    def test_what_the_beginning_alone_brings_is_wanted_at_no_place(self):
        once = made(COUNTDOWN)
        self.assertNotIn(("n", 0), [mark for place in range(5) for mark in once.wanted(place)])

    def test_marks_are_told_rising(self):
        rows = [("set", "b", 1), ("set", "b", 2), ("set", "ab", 1), ("say", "z"), ("say", "a"), ("say", "ab"), ("say", "b")]
        self.assertEqual(made(rows).wanted(3), [("a", 0), ("ab", 1), ("b", 2), ("z", 0)])

    def test_none_where_a_place_is_not_reached(self):
        once = made([("jump", 2), ("say", "a"), ("stop",), ("say", "a")])
        self.assertEqual([once.wanted(place) for place in range(5)], [[]] * 5)

    def test_many_drawn_rows_against_a_slow_reading(self):
        chance = random.Random(15)
        for number in range(300):
            rows = loops(chance, most=20) if number % 4 == 0 else drawn(chance, most=12)
            with self.subTest(rows=rows):
                form = Plain(made(rows))
                for place, wanted in enumerate(form.wanted):
                    reached = place in form.reached
                    self.assertEqual(wanted, sorted(mark for mark in form.asked if reached and form.reads_on(place, mark)))
                # In a form that made gives, just one mark is wanted for each name that is.
                self.assertEqual([[mark[0] for mark in marks] for marks in form.wanted], names_wanted(rows))


NO_PLACES = [
    -1, -2, 6, 10 ** 30, -(10 ** 30), True, False, None, "", "a", "0", b"0", 0.0, 1.0, float("nan"), 1j, (), (0,),
    ("a", 0), [], [0], {}, {0: 0}, {0}, range(1), object(), Alike(), int, len,
    saying(int), saying(bool), insisting(int), *under(int, 0), *under(int, 1),
]


class Refusals(unittest.TestCase):
    def refused(self, kind, ask, *told):
        with self.assertRaises(ValueError) as caught:
            ask(*told)
        self.assertIs(type(caught.exception), kind)
        str(caught.exception)

    def test_more_than_sixty_rows(self):
        self.assertEqual(made([("say", "a")] * 60).size, 60)
        for many in (61, 62, 500):
            self.refused(TooMany, made, [("say", "a")] * many)
            self.refused(TooMany, made, [("jump", many)] * many)

    def test_no_place_of_a_form(self):
        for once in (made(DIAMOND), made([])):
            end = once.size
            for place in NO_PLACES + [end + 1]:
                for ask in (once.row, once.joins, once.wanted):
                    self.refused(BadPlace, ask, place)
            self.refused(BadPlace, once.row, end)
            once.joins(end)
            once.wanted(end)

    def test_each_refusal_is_a_row_error(self):
        self.assertRaises(RowError, made, [("say", 1)] * 61)
        self.assertRaises(RowError, made([]).row, 0)


class WhatIsHandedInAndTold(unittest.TestCase):
    def test_rows_stay_as_they_were(self):
        rows = copy.deepcopy(DIAMOND)
        made(rows)
        self.assertEqual(rows, DIAMOND)

    def test_a_form_does_not_hang_on_the_rows(self):
        rows = list(DIAMOND)
        once = made(rows)
        kept = Plain(once)
        rows[4] = ("set", "x", 9)
        rows.append(("say", "y"))
        del rows[0]
        self.assertEqual(once.size, 5)
        self.assertEqual(Plain(once), kept)

    def test_a_form_does_not_hang_on_what_it_told(self):
        once = made(DIAMOND + [("say", "c")])
        kept = Plain(once)
        for place in range(7):
            once.wanted(place).append("changed")
            stand = once.joins(place)
            for _, pairs in stand:
                pairs[0] = "changed"
                pairs.append("changed")
            stand.append("changed")
        self.assertEqual(Plain(once), kept)

    def test_the_same_each_time(self):
        chance = random.Random(8)
        for _ in range(50):
            rows = drawn(chance, most=12, names="abcd")
            self.assertEqual(Plain(made(rows)), Plain(made(list(rows))))


if __name__ == "__main__":
    unittest.main()
