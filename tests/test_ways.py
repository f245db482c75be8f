"""Points 1, 6 and 7: where ways lead, and which names are wanted."""

import copy
import itertools
import random
import unittest

from joinmarks.ways import comers, names_wanted, reached
from slow import drawn, follow, leads_to, wants

COUNTDOWN = [("nought", "n", 4), ("say", "n"), ("sub", "n", "n", 1), ("jump", 0)]


class Reached(unittest.TestCase):
    def test_no_rows(self):
        self.assertEqual(reached([]), [0])

    def test_each_kind_of_row(self):
        for row in (("set", "a", 1), ("add", "a", 1, 2), ("sub", "a", 1, 2), ("less", "a", 1, 2), ("say", 1)):
            self.assertEqual(reached([row]), [0, 1])
            self.assertEqual(reached([row, ("say", 1)]), [0, 1, 2])
        self.assertEqual(reached([("jump", 2), ("say", 1), ("say", 2)]), [0, 2, 3])
        self.assertEqual(reached([("nought", "a", 2), ("say", 1), ("say", 2)]), [0, 1, 2, 3])
        self.assertEqual(reached([("stop",), ("say", 1)]), [0, 2])

    def test_both_ways_of_a_nought_count_whatever_it_reads(self):
        self.assertEqual(reached([("nought", 0, 2), ("say", 1), ("say", 2)]), [0, 1, 2, 3])
        self.assertEqual(reached([("nought", 5, 3), ("jump", 0), ("say", 2), ("say", 3)]), [0, 1, 3, 4])

    def test_places_that_no_way_comes_to(self):
        rows = [("jump", 3), ("say", 1), ("jump", 1), ("stop",), ("jump", 3), ("jump", 5)]
        self.assertEqual(reached(rows), [0, 3, 6])

    def test_an_end_that_is_not_reached(self):
        self.assertEqual(reached([("jump", 0)]), [0])
        self.assertEqual(reached([("say", 1), ("jump", 0), ("say", 2)]), [0, 1])

    def test_places_reached_backwards_are_told_rising(self):
        self.assertEqual(reached([("jump", 3), ("stop",), ("jump", 1), ("jump", 2)]), [0, 1, 2, 3, 4])

    def test_loops(self):
        self.assertEqual(reached(COUNTDOWN), [0, 1, 2, 3, 4])
        self.assertEqual(reached([("nought", "a", 0)]), [0, 1])


class Comers(unittest.TestCase):
    def test_no_rows(self):
        self.assertEqual(comers([]), [[-1]])

    def test_each_kind_of_row(self):
        for row in (("set", "a", 1), ("add", "a", 1, 2), ("sub", "a", 1, 2), ("less", "a", 1, 2), ("say", 1)):
            self.assertEqual(comers([row, ("say", 1)]), [[-1], [0], [1]])
        self.assertEqual(comers([("jump", 2), ("say", 1), ("say", 2)]), [[-1], [], [0], [2]])
        self.assertEqual(comers([("nought", "a", 2), ("say", 1), ("say", 2)]), [[-1], [0], [0, 1], [2]])
        self.assertEqual(comers([("stop",), ("say", 1)]), [[-1], [], [0]])

    def test_a_nought_whose_goal_is_the_next_place_comes_once(self):
        self.assertEqual(comers([("nought", "a", 1)]), [[-1], [0]])
        self.assertEqual(comers([("say", 1), ("nought", "a", 2), ("say", 2)]), [[-1], [0], [1], [2]])

    def test_place_0_come_to_from_rows_as_well(self):
        rows = [("say", 1), ("nought", "a", 0), ("nought", "b", 0), ("jump", 0)]
        self.assertEqual(comers(rows), [[-1, 1, 2, 3], [0], [1], [2], []])

    def test_a_place_that_comes_from_itself(self):
        self.assertEqual(comers([("jump", 0)]), [[-1, 0], []])
        self.assertEqual(comers([("say", 1), ("nought", "a", 1)]), [[-1], [0, 1], [1]])

    def test_comers_that_are_not_reached_are_not_told(self):
        rows = [("jump", 3), ("jump", 3), ("jump", 1), ("say", 1), ("stop",), ("jump", 0)]
        self.assertEqual(comers(rows), [[-1], [], [], [0], [3], [], [4]])

    def test_the_end_come_to_from_several_places_rising(self):
        rows = [("nought", "a", 5), ("nought", "b", 3), ("stop",), ("nought", "c", 5), ("jump", 5)]
        self.assertEqual(comers(rows), [[-1], [0], [1], [1], [3], [0, 2, 3, 4]])

    def test_comers_from_behind_are_told_rising(self):
        rows = [("jump", 3), ("say", 1), ("stop",), ("nought", "a", 1), ("jump", 1)]
        self.assertEqual(comers(rows), [[-1], [3, 4], [1], [0], [3], [2]])

    def test_loops(self):
        self.assertEqual(comers(COUNTDOWN), [[-1, 3], [0], [1], [2], [0]])


class NamesWanted(unittest.TestCase):
    def test_no_rows(self):
        self.assertEqual(names_wanted([]), [[]])

    def test_each_kind_of_row(self):
        self.assertEqual(names_wanted([("set", "a", "b")]), [["b"], []])
        for word in ("add", "sub", "less"):
            self.assertEqual(names_wanted([(word, "a", "c", "b")]), [["b", "c"], []])
            self.assertEqual(names_wanted([(word, "a", 1, "b")]), [["b"], []])
            self.assertEqual(names_wanted([(word, "a", "c", 1)]), [["c"], []])
            self.assertEqual(names_wanted([(word, "a", "c", "c")]), [["c"], []])
            self.assertEqual(names_wanted([(word, "a", 1, 2), ("say", "a")]), [[], ["a"], []])
        self.assertEqual(names_wanted([("say", "a")]), [["a"], []])
        self.assertEqual(names_wanted([("jump", 1)]), [[], []])
        self.assertEqual(names_wanted([("nought", "a", 1)]), [["a"], []])
        self.assertEqual(names_wanted([("stop",), ("say", "a")]), [[], [], []])

    def test_numbers_are_not_wanted(self):
        self.assertEqual(names_wanted([("say", 1), ("set", "a", 2), ("nought", 0, 3)]), [[]] * 4)

    def test_a_name_is_wanted_up_to_what_reads_it_last(self):
        rows = [("say", 1), ("say", "a"), ("say", "b"), ("say", "a"), ("say", 1)]
        self.assertEqual(names_wanted(rows), [["a", "b"], ["a", "b"], ["a", "b"], ["a"], [], []])

    def test_a_name_is_not_wanted_ahead_of_what_writes_it(self):
        rows = [("say", 1), ("set", "a", "b"), ("say", "a"), ("set", "a", 2), ("say", "a")]
        self.assertEqual(names_wanted(rows), [["b"], ["b"], ["a"], [], ["a"], []])

    def test_a_name_that_the_same_row_reads_and_writes(self):
        rows = [("say", 1), ("add", "a", "a", 1), ("say", 2)]
        self.assertEqual(names_wanted(rows), [["a"], ["a"], [], []])
        rows = [("set", "a", "a"), ("sub", "a", 1, "a"), ("less", "a", "a", "a")]
        self.assertEqual(names_wanted(rows), [["a"], ["a"], ["a"], []])

    def test_a_name_written_on_one_way_and_not_on_the_other(self):
        rows = [("nought", "b", 2), ("set", "a", 1), ("say", "a")]
        self.assertEqual(names_wanted(rows), [["a", "b"], [], ["a"], []])

    def test_a_name_written_on_both_ways(self):
        rows = [("nought", "b", 3), ("set", "a", 1), ("jump", 4), ("set", "a", 2), ("say", "a")]
        self.assertEqual(names_wanted(rows), [["b"], [], ["a"], [], ["a"], []])

    def test_a_name_that_is_read_on_one_way_alone(self):
        rows = [("nought", "b", 3), ("say", "a"), ("stop",), ("say", "b")]
        self.assertEqual(names_wanted(rows), [["a", "b"], ["a"], [], ["b"], []])

    def test_a_name_that_is_read_only_behind_a_loop(self):
        rows = [("nought", "n", 3), ("sub", "n", "n", 1), ("jump", 0), ("say", "a")]
        self.assertEqual(names_wanted(rows), [["a", "n"], ["a", "n"], ["a", "n"], ["a"], []])

    def test_a_name_that_is_read_only_in_the_next_round(self):
        rows = [("say", "a"), ("set", "b", 1), ("jump", 0)]
        self.assertEqual(names_wanted(rows), [["a"], ["a"], ["a"], []])
        rows = [("say", "a"), ("set", "a", 1), ("jump", 0)]
        self.assertEqual(names_wanted(rows), [["a"], [], ["a"], []])

    def test_nothing_is_wanted_at_places_that_are_not_reached(self):
        rows = [("jump", 3), ("say", "a"), ("say", "b"), ("say", "c"), ("stop",), ("say", "d")]
        self.assertEqual(names_wanted(rows), [["c"], [], [], ["c"], [], [], []])

    def test_readers_behind_a_stop_are_not_wanted_by_way_of_unreached_rows(self):
        rows = [("set", "a", 1), ("stop",), ("say", "a"), ("jump", 0)]
        self.assertEqual(names_wanted(rows), [[], [], [], [], []])

    def test_names_are_told_rising(self):
        names = ["b", "aa", "a", "ab", "z", "abcdefgh", "abcdefg"]
        rows = [("say", name) for name in names]
        self.assertEqual(names_wanted(rows)[0], sorted(names))


class ManyRows(unittest.TestCase):
    def test_all_against_a_slow_reading_of_the_document(self):
        chance = random.Random(20)
        for _ in range(1500):
            rows = drawn(chance)
            places = leads_to(rows)
            ends = range(len(rows) + 1)
            with self.subTest(rows=rows):
                self.assertEqual(reached(rows), places)
                came = [[-1] if place == 0 else [] for place in ends]
                for place, goal in itertools.product(places, ends):
                    if place < len(rows) and goal in follow(rows, place):
                        came[goal].append(place)
                self.assertEqual(comers(rows), came)
                wanted = [[name for name in "abc" if place in places and wants(rows, place, name)] for place in ends]
                self.assertEqual(names_wanted(rows), wanted)

    def test_more_than_sixty_rows(self):
        for many in (60, 61, 2000):
            rows = [("say", "a")] * many
            self.assertEqual(reached(rows), list(range(many + 1)))
            self.assertEqual(comers(rows), [[place - 1] for place in range(many + 1)])
            self.assertEqual(names_wanted(rows), [["a"]] * many + [[]])


class WhatIsHandedInAndTold(unittest.TestCase):
    ROWS = [("nought", "b", 5), ("add", "a", "a", "c"), ("say", "a"), ("jump", 0), ("say", "b")]

    def test_rows_stay_as_they_were(self):
        for ask in (reached, comers, names_wanted):
            rows = copy.deepcopy(self.ROWS)
            ask(rows)
            self.assertEqual(rows, self.ROWS)

    def test_told_lists_are_changed_and_asked_again(self):
        self.assertEqual(reached(self.ROWS), [0, 1, 2, 3, 5])
        told = reached(self.ROWS)
        told.append("changed")
        self.assertEqual(reached(self.ROWS), [0, 1, 2, 3, 5])
        for ask in (comers, names_wanted):
            first = ask(self.ROWS)
            kept = copy.deepcopy(first)
            for part in first:
                part.append("changed")
            # Each list is one of its own: what was put into it once stands in it once.
            self.assertEqual(first, [part + ["changed"] for part in kept])
            self.assertEqual(ask(self.ROWS), kept)

    def test_lists_of_lists_are_told(self):
        for rows in ([], self.ROWS):
            self.assertIs(type(reached(rows)), list)
            for ask in (comers, names_wanted):
                told = ask(rows)
                self.assertEqual([type(told)] + [type(part) for part in told], [list] * (len(rows) + 2))


if __name__ == "__main__":
    unittest.main()
