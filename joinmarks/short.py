"""Forms made shorter: copies passed on, and left out what is not needed."""

from joinmarks.once import Once, joins_of, rows_of
from joinmarks.parts import PASS, is_number, put_in, what_is_read, what_is_written


def shortened(once):
    """Tell the shortened form; the one that is handed in stays as it is."""
    copies = _copies(rows_of(once), joins_of(once))
    rows = [_passed_on(row, copies) for row in rows_of(once)]
    joins = [[_join_passed_on(join, copies) for join in stand] for stand in joins_of(once)]
    needed = _needed(rows, joins)
    kept = [[join for join in stand if join[0] in needed] for stand in joins]
    return Once([_kept_row(row, needed) for row in rows], kept)


def _copies(rows, joins):
    """Tell for each mark that is a copy what it is a copy of, which is no copy itself."""
    copies = {row[1]: row[2] for row in rows if row is not None and row[0] == "set"}
    waiting = [join for stand in joins for join in stand]
    more = True
    while more:
        left = []
        for mark, brought in waiting:
            things = [_first_one(copies, thing) for _, thing in brought]
            others = [thing for thing in things if thing != mark]
            if all([thing == others[0] for thing in others]):
                copies[mark] = others[0]
            else:
                left.append((mark, brought))
        more = len(left) < len(waiting)
        waiting = left
    return {mark: _first_one(copies, mark) for mark in copies}


def _first_one(copies, thing):
    while thing in copies:
        thing = copies[thing]
    return thing


def _passed_on(row, copies):
    if row is None:
        return None
    return put_in(row, what_is_written(row), copies)


def _join_passed_on(join, copies):
    mark, brought = join
    return mark, [(comer, copies.get(thing, thing)) for comer, thing in brought]


def _needed(rows, joins):
    asked = {}
    waiting = []
    for row in rows:
        if row is not None and row[0] in ("say", "nought"):
            waiting.extend(what_is_read(row))
        elif row is not None and what_is_written(row) is not None:
            asked[what_is_written(row)] = what_is_read(row)
    for stand in joins:
        for mark, brought in stand:
            asked[mark] = [thing for _, thing in brought if not is_number(thing)]
    needed = {}
    while waiting:
        mark = waiting.pop()
        if mark not in needed:
            needed[mark] = True
            waiting.extend(asked.get(mark, []))
    return needed


def _kept_row(row, needed):
    if row is None or what_is_written(row) is None:
        return row
    if row[0] == "set" or what_is_written(row) not in needed:
        return PASS
    return row
