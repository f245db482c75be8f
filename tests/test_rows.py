"""Points 1, 2, 3 and 5: what rows do when they are run."""

import copy
import unittest

from joinmarks.rows import run

HUGE = 10 ** 21


def said(rows, values=None, most=100):
    return run(rows, values or {}, most)[0]


class EachKindOfRow(unittest.TestCase):
    def test_no_rows_at_all(self):
        self.assertEqual(run([], {}, 0), ([], "end", 0))
        self.assertEqual(run([], {"a": 4}, 9), ([], "end", 0))

    def test_set(self):
        self.assertEqual(run([("set", "a", 7), ("say", "a")], {}, 9), ([7], "end", 2))
        self.assertEqual(said([("set", "a", "b"), ("say", "a"), ("say", "b")], {"b": 5}), [5, 5])

    def test_set_from_a_name_takes_what_it_holds_then(self):
        rows = [("set", "a", "b"), ("set", "b", 9), ("say", "a"), ("say", "b")]
        self.assertEqual(said(rows, {"b": 5}), [5, 9])

    def test_add(self):
        rows = [("add", "a", "b", "c"), ("add", "b", 1, "a"), ("add", "c", "b", 2), ("add", "d", 3, 4)]
        rows += [("say", name) for name in "abcd"]
        self.assertEqual(said(rows, {"b": 10, "c": 20}), [30, 31, 33, 7])

    def test_sub_takes_the_second_from_the_first(self):
        rows = [("sub", "a", "b", "c"), ("sub", "d", "c", "b"), ("sub", "e", 1, "b"), ("sub", "f", "b", 1)]
        rows += [("say", name) for name in "adef"]
        self.assertEqual(said(rows, {"b": 10, "c": 4}), [6, -6, -9, 9])

    def test_less(self):
        for first, second, told in ((1, 2, 1), (2, 2, 0), (3, 2, 0), (-1, 0, 1), (0, -1, 0), (-HUGE, HUGE, 1)):
            self.assertEqual(said([("less", "a", first, second), ("say", "a")]), [told])
            named = [("less", "a", "b", "c"), ("say", "a")]
            self.assertEqual(said(named, {"a": 8, "b": first, "c": second}), [told])

    def test_less_tells_whole_numbers(self):
        rows = [("less", "a", 1, 2), ("say", "a"), ("less", "a", 2, 1), ("say", "a")]
        self.assertEqual([type(number) for number in said(rows)], [int, int])

    def test_say(self):
        rows = [("say", 3), ("say", "a"), ("say", "b"), ("say", 3)]
        self.assertEqual(run(rows, {"a": -2}, 9), ([3, -2, 0, 3], "end", 4))

    def test_jump(self):
        rows = [("jump", 2), ("say", 1), ("say", 2)]
        self.assertEqual(run(rows, {}, 9), ([2], "end", 2))

    def test_nought_taken_and_not_taken(self):
        rows = [("nought", "a", 2), ("say", 1), ("say", 2)]
        self.assertEqual(run(rows, {}, 9), ([2], "end", 2))
        self.assertEqual(run(rows, {"a": 0}, 9), ([2], "end", 2))
        for other in (1, -1, HUGE, -HUGE):
            self.assertEqual(run(rows, {"a": other}, 9), ([1, 2], "end", 3))

    def test_nought_of_a_number(self):
        self.assertEqual(run([("nought", 0, 2), ("say", 1)], {}, 9), ([], "end", 1))
        self.assertEqual(run([("nought", 5, 2), ("say", 1)], {}, 9), ([1], "end", 2))

    def test_stop_in_the_middle(self):
        rows = [("say", 1), ("stop",), ("say", 2)]
        self.assertEqual(run(rows, {}, 9), ([1], "end", 2))

    def test_a_row_that_reads_and_writes_the_same_name(self):
        rows = [("add", "a", "a", "a"), ("say", "a"), ("sub", "a", 1, "a"), ("say", "a")]
        rows += [("less", "a", "a", 0), ("say", "a"), ("set", "a", "a"), ("say", "a")]
        self.assertEqual(said(rows, {"a": 3}), [6, -5, 1, 1])


class NamesAndNumbers(unittest.TestCase):
    def test_a_name_that_no_number_is_told_for_holds_nought(self):
        self.assertEqual(said([("say", "a"), ("add", "b", "c", 2), ("say", "b")]), [0, 2])

    def test_numbers_of_any_size(self):
        for number in (-1, 0, HUGE, -HUGE):
            self.assertEqual(said([("set", "a", number), ("say", "a"), ("say", number)]), [number, number])
            self.assertEqual(said([("say", "a")], {"a": number}), [number])
            self.assertEqual(said([("add", "a", number, HUGE), ("say", "a")]), [number + HUGE])
            self.assertEqual(said([("sub", "a", number, HUGE), ("say", "a")]), [number - HUGE])

    def test_numbers_that_grow_by_themselves(self):
        rows = [("add", "a", "a", "a")] * 200 + [("say", "a")]
        self.assertEqual(said(rows, {"a": 1}, 201), [2 ** 200])

    def test_names_that_differ_in_one_letter(self):
        rows = [("set", "a", 1), ("set", "z", 2), ("set", "abcdefgh", 3), ("set", "abcdefgz", 4)]
        rows += [("set", "zbcdefgh", 5), ("set", "abcdefg", 6)]
        names = ["a", "z", "abcdefgh", "abcdefgz", "zbcdefgh", "abcdefg"]
        rows += [("say", name) for name in names]
        self.assertEqual(said(rows), [1, 2, 3, 4, 5, 6])

    def test_names_that_are_words_of_rows(self):
        rows = [("set", "set", 4), ("add", "say", "set", "jump"), ("say", "say")]
        self.assertEqual(said(rows, {"jump": 2}), [6])

    def test_numbers_told_for_names_that_no_row_has(self):
        self.assertEqual(run([("say", "a")], {"b": 3, "zz": 4}, 9), ([0], "end", 1))


class Goals(unittest.TestCase):
    def test_a_goal_at_place_0(self):
        rows = [("say", "a"), ("add", "a", "a", 1), ("less", "b", "a", 3), ("nought", "b", 5), ("jump", 0)]
        self.assertEqual(run(rows, {}, 99), ([0, 1, 2], "end", 14))

    def test_a_goal_at_the_own_place(self):
        self.assertEqual(run([("say", 1), ("jump", 1)], {}, 5), ([1], "tired", 5))
        self.assertEqual(run([("say", 1), ("nought", "a", 1)], {}, 5), ([1], "tired", 5))
        self.assertEqual(run([("say", 1), ("nought", "a", 1)], {"a": 1}, 5), ([1], "end", 2))

    def test_a_goal_at_the_last_row(self):
        self.assertEqual(run([("jump", 2), ("say", 1), ("say", 2)], {}, 9), ([2], "end", 2))
        self.assertEqual(run([("nought", 0, 2), ("say", 1), ("say", 2)], {}, 9), ([2], "end", 2))

    def test_a_goal_at_the_end(self):
        self.assertEqual(run([("jump", 2), ("say", 1)], {}, 9), ([], "end", 1))
        self.assertEqual(run([("nought", "a", 2), ("say", 1)], {}, 9), ([], "end", 1))

    def test_a_goal_at_the_next_place(self):
        self.assertEqual(run([("nought", "a", 1), ("say", 1)], {}, 9), ([1], "end", 2))
        self.assertEqual(run([("jump", 1), ("say", 1)], {}, 9), ([1], "end", 2))


class Steps(unittest.TestCase):
    def test_a_run_that_never_ends(self):
        rows = [("say", "a"), ("add", "a", "a", 1), ("jump", 0)]
        self.assertEqual(run(rows, {}, 0), ([], "tired", 0))
        self.assertEqual(run(rows, {}, 1), ([0], "tired", 1))
        self.assertEqual(run(rows, {}, 2), ([0], "tired", 2))
        self.assertEqual(run(rows, {}, 600), (list(range(200)), "tired", 600))
        self.assertEqual(run(rows, {}, 601), (list(range(201)), "tired", 601))

    def test_the_last_step_and_one_step_less(self):
        rows = [("say", 1), ("jump", 3), ("say", 2), ("say", 3)]
        self.assertEqual(run(rows, {}, 3), ([1, 3], "end", 3))
        self.assertEqual(run(rows, {}, 2), ([1], "tired", 2))

    def test_the_last_step_is_a_stop_or_a_jump(self):
        for last in (("stop",), ("jump", 2), ("nought", 0, 2)):
            self.assertEqual(run([("say", 1), last], {}, 2), ([1], "end", 2))
            self.assertEqual(run([("say", 1), last], {}, 1), ([1], "tired", 1))

    def test_more_than_sixty_rows(self):
        for many in (60, 61, 500):
            self.assertEqual(run([("say", 1)] * many, {}, many), ([1] * many, "end", many))


class WhatIsHandedInAndTold(unittest.TestCase):
    ROWS = [("add", "a", "a", 1), ("say", "a"), ("nought", "b", 4), ("jump", 0)]

    def test_rows_and_numbers_stay_as_they_were(self):
        rows = copy.deepcopy(self.ROWS)
        values = {"a": 3, "b": 1, "other": 8}
        run(rows, values, 7)
        self.assertEqual(rows, self.ROWS)
        self.assertEqual(values, {"a": 3, "b": 1, "other": 8})
        self.assertEqual(list(values), ["a", "b", "other"])

    def test_a_told_tuple_of_a_list_a_text_and_a_number(self):
        for most in (0, 2, 9):
            told = run(self.ROWS, {}, most)
            self.assertEqual([type(told)] + [type(part) for part in told], [tuple, list, str, int])

    def test_what_is_told_is_the_askers_own(self):
        for most in (0, 2, 9):
            first = run(self.ROWS, {}, most)
            kept = copy.deepcopy(first)
            first[0].append("changed")
            self.assertEqual(run(self.ROWS, {}, most), kept)


if __name__ == "__main__":
    unittest.main()
