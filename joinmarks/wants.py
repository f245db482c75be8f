"""Which marks are wanted where in a form."""

from joinmarks.parts import BEGINNING, is_number, what_is_read, what_is_written
from joinmarks.ways import comers_to


def marks_wanted(rows, joins):
    """Tell for each place the marks that are wanted there, behind its joins, rising."""
    came = comers_to(rows)
    wanted = [{} for _ in came]
    waiting = _readings(rows, joins)
    while waiting:
        place, mark = waiting.pop()
        if mark in wanted[place]:
            continue
        wanted[place][mark] = True
        if mark not in [target for target, _ in joins[place]]:
            waiting.extend(_wanting_it(rows, came[place], mark))
    return [sorted(marks) for marks in wanted]


def marks_brought(joins, comer):
    """Tell the marks that are brought to these joins from there, one that is brought twice twice."""
    return [thing for _, brought in joins for at, thing in brought if at == comer and not is_number(thing)]


def _readings(rows, joins):
    readings = []
    for place, row in enumerate(rows):
        if row is not None:
            readings.extend([(place, mark) for mark in what_is_read(row)])
    for stand in joins:
        for _, brought in stand:
            for comer, thing in brought:
                if not is_number(thing):
                    readings.extend(_wanting_it(rows, [comer], thing))
    return readings


def _wanting_it(rows, comers, mark):
    # What is wanted behind a row is wanted at its place, too, unless that row writes it.
    places = [comer for comer in comers if comer != BEGINNING]
    return [(place, mark) for place in places if what_is_written(rows[place]) != mark]
