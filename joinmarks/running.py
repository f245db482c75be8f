"""Forms, done as rows are, and the ways that meet in their joins."""

from joinmarks.errors import NoJoin
from joinmarks.marks import writers_in
from joinmarks.meets import two_ways
from joinmarks.once import joins_of, rows_of
from joinmarks.parts import BEGINNING, PASS, is_name
from joinmarks.rows import do_row, place_behind, worth


def run_once(once, values, most):
    """Tell what was said, "end" or "tired", and how many rows of the form were done."""
    rows = rows_of(once)
    joins = [[(mark, dict(brought)) for mark, brought in stand] for stand in joins_of(once)]
    held = {(name, 0): number for name, number in values.items()}
    said = []
    came = BEGINNING
    place = 0
    done = 0
    # The end has no joins: nothing is wanted there.
    while place < len(rows):
        held.update({mark: worth(brought[came], held) for mark, brought in joins[place]})
        row = rows[place]
        if row != PASS:
            if done >= most:
                return said, "tired", done
            done += 1
        do_row(row, held, said)
        came = place
        place = place_behind(rows, place, held)
    return said, "end", done


def meeting(once, place, name):
    """Tell two ways that come to the join of the name there, from different writes of it."""
    names = [mark[0] for mark, _ in once.joins(place)]
    # Only a name is looked for: what is none may say that it is the same as one.
    if not is_name(name) or name not in names:
        raise NoJoin("no join of that name stands there")
    rows = rows_of(once)
    writers = [places[0] for mark, places in writers_in(rows).items() if mark[0] == name]
    return two_ways(rows, writers, place)
