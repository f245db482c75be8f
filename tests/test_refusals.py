"""Points 1 and 4: which rows are refused, with which class, and which are not."""

import collections
import copy
import enum
import unittest
import unittest.mock

from joinmarks.errors import BadPlace, BadRow, NoJoin, RowError, TooMany
from joinmarks.once import made
from joinmarks.rows import run
from joinmarks.ways import comers, names_wanted, reached
from slow import Alike, insisting, saying, under

CLASSES = (TooMany, BadRow, BadPlace, NoJoin)

ASKERS = {
    "run": lambda rows: run(rows, {}, 5),
    "run without a step": lambda rows: run(rows, {}, 0),
    "reached": reached,
    "comers": comers,
    "names_wanted": names_wanted,
    "made": made,
}


NO_NAMES = [
    "", "abcdefghi", "A", "aB", "a1", "1", " ", "a b", "a ", " a", "a\n", "a_b", "a-b", "`", "{", "a.",
    "\u00e4", "\u00df", "\u0430", "\u00aa", "\uff41", b"a", 0.5, 1.0, None, True, False, [], ["a"], {}, {"a": 1},
    {"a"}, (), ("a",), ("a", 0), ("a", 1), object(), Alike(), str, len,
]

NO_PLACES = [
    -1, 4, 5, -(10 ** 30), 10 ** 30, 10 ** 5000, True, False, None, "", "a", "1", "abcdefghi", b"1", 0.0, 1.0, 1.5,
    float("nan"), 1j, (), (1,), ("a", 0), [], [1], {}, {1: 1}, {1}, range(1), object(), Alike(), int, len,
]

GOOD = [("nought", "a", 3), ("say", 1), ("jump", 0)]


class Small(enum.IntEnum):
    NOUGHT = 0
    ONE = 1


def stand_ins(kind):
    """What says that it is of this kind, in several ways, and is not."""
    return [saying(kind), insisting(kind), unittest.mock.Mock(spec=kind), unittest.mock.MagicMock(spec=kind)]


class Refusals(unittest.TestCase):
    def refused(self, rows, kind):
        for who, ask in ASKERS.items():
            with self.subTest(who=who):
                with self.assertRaises(ValueError) as caught:
                    ask(rows)
                self.assertIs(type(caught.exception), kind)
                str(caught.exception)

    def taken(self, rows):
        for who, ask in ASKERS.items():
            if who != "made" or len(rows) <= 60:
                ask(rows)

    def test_each_class_is_a_row_error_and_no_other_ones(self):
        self.assertTrue(issubclass(RowError, ValueError))
        for kind in CLASSES:
            self.assertTrue(issubclass(kind, RowError))
            self.assertTrue(issubclass(kind, ValueError))
            self.assertFalse(issubclass(RowError, kind))
            self.assertEqual([other for other in CLASSES if issubclass(kind, other)], [kind])

    def test_what_is_no_list(self):
        others = [tuple(GOOD), (), None, "", "rows", b"", {}, {0: ("stop",)}, 0, 1, 1.5, True, False]
        others += [set(), {("stop",)}, range(0), iter(GOOD), object(), Alike(), list, len]
        for rows in others:
            self.refused(rows, BadRow)

    def test_what_is_no_tuple(self):
        for row in (["stop"], ["say", 1], ["jump", 0], [], None, "", "stop", "say", 0, 1, True, 1.5, {}, {"say": 1}):
            self.refused([row], BadRow)
        for row in ({"stop"}, b"stop", object(), Alike(), tuple):
            self.refused([row], BadRow)

    def test_an_empty_tuple(self):
        self.refused([()], BadRow)

    def test_a_first_thing_that_is_no_word(self):
        firsts = [0, 1, None, True, [], ["say"], ("say",), {}, {"say": 1}, {"say"}, 1.5, object(), Alike()]
        firsts += ["", "Say", "SAY", "say ", " say", "sayy", "sa", "pass", "goto", "a", b"say"]
        for first in firsts:
            for behind in ((), (1,), ("a", 1), ("a", 1, 2)):
                self.refused([(first,) + behind], BadRow)

    def test_too_few_and_too_many_things(self):
        for row in (("set", "a", 1), ("say", 1), ("jump", 0), ("nought", "a", 0), ("stop",)):
            self.taken([row])
            self.refused([row + (1,)], BadRow)
            self.refused([row + ("a",)], BadRow)
            self.refused([row + (None, None)], BadRow)
            for many in range(1, len(row)):
                self.refused([row[:many]], BadRow)
        for word in ("add", "sub", "less"):
            row = (word, "a", 1, "b")
            self.taken([row])
            self.refused([row + (1,)], BadRow)
            for many in (1, 2, 3):
                self.refused([row[:many]], BadRow)

    def test_wrong_names(self):
        for thing in NO_NAMES + [0, 1, -1, 10 ** 30]:
            self.refused([("set", thing, 1)], BadRow)
            for word in ("add", "sub", "less"):
                self.refused([(word, thing, 1, 2)], BadRow)

    def test_wrong_operands(self):
        for thing in NO_NAMES:
            self.refused([("set", "a", thing)], BadRow)
            self.refused([("say", thing)], BadRow)
            self.refused([("nought", thing, 0)], BadRow)
            for word in ("add", "sub", "less"):
                self.refused([(word, "a", thing, 1)], BadRow)
                self.refused([(word, "a", "b", thing)], BadRow)

    def test_names_and_operands_at_the_edges_are_taken(self):
        for name in ("a", "z", "az", "abcdefgh", "zzzzzzzz", "stop"):
            self.taken([("set", name, 1), ("say", name), ("nought", name, 0), ("add", name, name, name)])
        for number in (0, -1, 10 ** 30, -(10 ** 30), 10 ** 5000):
            self.taken([("set", "a", number), ("nought", number, 3), ("sub", "a", number, number)])

    def test_wrong_goals(self):
        for goal in NO_PLACES:
            self.refused([("say", 1), ("jump", goal), ("say", 2)], BadPlace)
            self.refused([("say", 1), ("say", 2), ("nought", "a", goal)], BadPlace)

    def test_goals_at_the_edges_are_taken(self):
        for goal in (0, 1, 2, 3):
            self.taken([("say", 1), ("jump", goal), ("say", 2)])
            self.taken([("say", 1), ("nought", "a", goal), ("say", 2)])
        self.refused([("jump", 2)], BadPlace)
        self.taken([("jump", 1)])

    def test_a_wrong_goal_in_a_row_whose_other_things_are_wrong(self):
        for goal in NO_PLACES:
            self.refused([("nought", "A", goal)], BadRow)
            self.refused([("nought", True, goal)], BadRow)
            self.refused([("jump", goal, goal)], BadRow)
            self.refused([("nought", goal)], BadRow)

    def test_the_first_row_that_is_so_tells_which(self):
        self.refused([("jump", 9), ("say",)], BadPlace)
        self.refused([("say",), ("jump", 9)], BadRow)
        self.refused([("say", 1), ("nought", "a", None), None, ("jump", 9)], BadPlace)
        self.refused([("say", 1), None, ("nought", "a", None), ("jump", 9)], BadRow)

    def test_wrong_rows_that_are_never_reached(self):
        self.refused([("jump", 2), ("say", "A")], BadRow)
        self.refused([("stop",), ("jump", 3)], BadPlace)
        self.refused([("jump", 0), ("say", 1), ()], BadRow)
        self.refused([("stop",), ("stop",), ("nought", 1, -1)], BadPlace)

    def test_a_wrong_row_at_the_last_of_many(self):
        self.refused([("say", 1)] * 80 + [("say",)], BadRow)
        self.refused([("say", 1)] * 80 + [("jump", 82)], BadPlace)

    def test_many_good_rows_are_taken(self):
        for many in (0, 1, 59, 60, 61, 300):
            self.taken([("say", 1)] * many)

    def test_a_form_of_too_many_rows_is_refused_by_its_rows_first(self):
        for many in (61, 100):
            self.assertRaises(TooMany, made, [("say", 1)] * many)
            self.refused([("say", 1)] * many + [("say",)], BadRow)
            self.refused([("say", 1)] * many + [("jump", many + 2)], BadPlace)
            self.refused([("jump", -1)] * many, BadPlace)
            self.refused((("say", 1),) * many, BadRow)

    def test_what_only_says_that_it_is_a_list(self):
        for rows in stand_ins(list):
            self.refused(rows, BadRow)

    def test_what_only_says_that_it_is_a_row(self):
        for row in stand_ins(tuple):
            self.refused([row], BadRow)
            self.refused([("stop",), row, ("jump", 9)], BadRow)

    def test_what_only_says_that_it_is_a_text(self):
        for thing in stand_ins(str):
            for behind in ((), (1,), (0,), ("a", 1), ("a", 1, 2)):
                self.refused([(thing,) + behind], BadRow)
            self.refused([("set", thing, 1)], BadRow)
            self.refused([("less", thing, 1, 2)], BadRow)

    def test_what_only_says_that_it_is_an_operand(self):
        for thing in stand_ins(str) + stand_ins(int) + stand_ins(bool):
            self.refused([("say", thing)], BadRow)
            self.refused([("set", "a", thing)], BadRow)
            self.refused([("nought", thing, 0)], BadRow)
            for word in ("add", "sub", "less"):
                self.refused([(word, "a", thing, 1)], BadRow)
                self.refused([(word, "a", 1, thing)], BadRow)

    def test_what_only_says_that_it_is_a_goal(self):
        for goal in stand_ins(int) + stand_ins(bool):
            self.refused([("jump", goal)], BadPlace)
            self.refused([("say", 1), ("nought", "a", goal)], BadPlace)

    def test_rows_of_a_class_under_list(self):
        for rows in under(list) + under(list, GOOD):
            self.refused(rows, BadRow)

    def test_a_row_of_a_class_under_tuple(self):
        named = collections.namedtuple("Say", ["word", "operand"])
        for row in under(tuple, ("stop",)) + under(tuple, ("say", 1)) + under(tuple) + [named("say", 1)]:
            self.refused([row], BadRow)
            self.refused([("say", 1), row], BadRow)

    def test_a_first_thing_of_a_class_under_text(self):
        for text in ("stop", "say", "jump", "zzz", "", "pass"):
            for first in under(str, text):
                for behind in ((), (1,), (0,), ("a", 1), ("a", 1, 2)):
                    self.refused([(first,) + behind], BadRow)

    def test_a_name_of_a_class_under_text(self):
        for name in under(str, "a"):
            self.refused([("set", name, 1), ("say", "a")], BadRow)
            self.refused([("say", name)], BadRow)
            self.refused([("nought", name, 0)], BadRow)
            for word in ("add", "sub", "less"):
                self.refused([(word, name, 1, 2)], BadRow)
                self.refused([(word, "a", name, 2)], BadRow)
                self.refused([(word, "a", 1, name)], BadRow)

    def test_a_number_of_a_class_under_int(self):
        for number in under(int, 0) + under(int, 1) + [Small.NOUGHT, Small.ONE]:
            self.refused([("say", number)], BadRow)
            self.refused([("set", "a", number), ("say", "a")], BadRow)
            self.refused([("nought", number, 0)], BadRow)
            for word in ("add", "sub", "less"):
                self.refused([(word, "a", number, 2)], BadRow)
                self.refused([(word, "a", 1, number)], BadRow)
            self.refused([("jump", number)], BadPlace)
            self.refused([("nought", "a", number)], BadPlace)

    def test_refused_rows_stay_as_they_were(self):
        for rows in ([("say", 1), ["say"]], [("say", 1), ("jump", [7])], {"a": [1]}):
            kept = copy.deepcopy(rows)
            for ask in ASKERS.values():
                self.assertRaises(RowError, ask, rows)
            self.assertEqual(rows, kept)


if __name__ == "__main__":
    unittest.main()
