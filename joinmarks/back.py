"""Forms turned back into rows, with no more names than the marks that are wanted together need."""

from joinmarks.moves import in_turn
from joinmarks.once import joins_of, rows_of
from joinmarks.parts import BEGINNING, PASS, has_goal, put_in, what_is_written
from joinmarks.short import shortened
from joinmarks.wants import marks_brought
from joinmarks.ways import next_places, places_found

SIGNS = "abcdefghijklmnopqrstuvwxyz"


def names_by(once):
    """Tell for each mark of the shortened form, and each one of the beginning that is wanted, its name."""
    short = shortened(once)
    rows = rows_of(short)
    numbers = {}
    _number_marks(numbers, _wanted_behind(short, rows, BEGINNING), [])
    # All ways to a place come by where the marks wanted there are written, so these have their
    # numbers already. A number is a new one only where all others are in use at one time.
    for place in places_found(rows):
        targets = [mark for mark, _ in short.joins(place)]
        _number_marks(numbers, targets, short.wanted(place))
        if place < short.size and what_is_written(rows[place]) is not None:
            _number_marks(numbers, [what_is_written(rows[place])], _wanted_behind(short, rows, place))
    return {mark: _name_of(number) for mark, number in numbers.items()}


def turned_back(once):
    """Tell rows that say what the form says, and for each name wanted at the beginning the one to put it in."""
    short = shortened(once)
    names = names_by(short)
    rows = rows_of(short)
    laid = _laid_out([_named(row, names) for row in rows], _rows_between(joins_of(short), names))
    return laid, {mark[0]: names[mark] for mark in _wanted_behind(short, rows, BEGINNING)}


def _wanted_behind(once, rows, place):
    found = []
    for after in next_places(rows, place):
        joins = once.joins(after)
        targets = [mark for mark, _ in joins]
        found.extend([mark for mark in once.wanted(after) if mark not in targets])
        found.extend(marks_brought(joins, place))
    return sorted(set(found))


def _number_marks(numbers, marks, wanted):
    used = [numbers[mark] for mark in wanted if mark in numbers]
    for mark in marks:
        number = 0
        while number in used:
            number += 1
        numbers[mark] = number
        used.append(number)


def _name_of(number):
    name = SIGNS[number % len(SIGNS)]
    while number >= len(SIGNS):
        number = number // len(SIGNS)
        name = SIGNS[number % len(SIGNS)] + name
    return name


def _named(row, names):
    if row is None:
        return None
    return put_in(row, names.get(what_is_written(row)), names)


def _rows_between(joins, names):
    """Tell for each way from a place to a next one that has joins the rows that do these."""
    spare = _name_of(len(set(list(names.values()))))
    moves = {}
    for place, stand in enumerate(joins):
        for mark, brought in stand:
            for comer, thing in brought:
                moves.setdefault((comer, place), []).append((names[mark], names.get(thing, thing)))
    return {way: in_turn(moves[way], spare) for way in moves}


def _laid_out(rows, between):
    # Until all is laid a goal is the place meant, or the way to it, and starts tells where that begins.
    laid = list(between.get((BEGINNING, 0), []))
    starts = {}
    for place, row in enumerate(rows):
        starts[place] = len(laid)
        if row is not None:
            _add_place(laid, starts, place, row, between)
    starts[len(rows)] = len(laid)
    return [_with_its_goal(row, starts) for row in laid]


def _add_place(laid, starts, place, row, between):
    word = row[0]
    behind = between.get((place, place + 1), [])
    if word == "jump":
        laid.extend(between.get((place, row[1]), []) + [row])
    elif word == "nought" and between.get((place, row[2]), []):
        way = (place, row[2])
        laid.append(("nought", row[1], way))
        laid.extend(behind + [("jump", place + 1)])
        starts[way] = len(laid)
        laid.extend(between[way] + [("jump", row[2])])
    else:
        if row != PASS:
            laid.append(row)
        laid.extend(behind)


def _with_its_goal(row, starts):
    if has_goal(row):
        return row[:-1] + (starts[row[-1]],)
    return row
