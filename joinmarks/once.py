"""The form of rows: each mark written once, with joins where ways meet."""

from joinmarks.errors import BadPlace, TooMany
from joinmarks.marks import marked
from joinmarks.parts import is_place, refuse_wrong
from joinmarks.wants import marks_wanted

MOST_ROWS = 60


class Once:
    """A form: rows with marks in the place of names, and joins at places."""

    def __init__(self, rows, joins):
        self.size = len(rows)
        self._rows = rows
        self._joins = joins
        self._wanted = marks_wanted(rows, joins)

    def row(self, place):
        """Tell the row at the place, or None where the place isn't reached."""
        if not is_place(place, self.size - 1):
            raise BadPlace("there is no such place ahead of the end")
        return self._rows[place]

    def joins(self, place):
        """Tell the joins at the place: pairs of a mark and the pairs of a place and what is brought from it."""
        self._refuse_no_place(place)
        return [(mark, list(brought)) for mark, brought in self._joins[place]]

    def wanted(self, place):
        """Tell the marks that are wanted at the place, behind its joins, rising."""
        self._refuse_no_place(place)
        return list(self._wanted[place])

    def _refuse_no_place(self, place):
        if not is_place(place, self.size):
            raise BadPlace("there is no such place")


def made(rows):
    """Tell the form of the rows."""
    refuse_wrong(rows)
    if len(rows) > MOST_ROWS:
        raise TooMany("a form is made of sixty rows at most")
    form_rows, joins = marked(rows)
    return Once(form_rows, joins)


def rows_of(once):
    """Tell the rows of all places of a form."""
    return [once.row(place) for place in range(once.size)]


def joins_of(once):
    """Tell the joins of all places of a form, the end too."""
    return [once.joins(place) for place in range(once.size + 1)]
