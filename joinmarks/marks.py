"""Rows with marks in the place of names: where joins stand, and which mark each name has where."""

from joinmarks.meets import two_ways
from joinmarks.parts import BEGINNING, put_in, what_is_read, what_is_written
from joinmarks.ways import comers_to, names_wanted, next_places, places_found


def marked(rows):
    """Tell the rows with marks, None where they aren't reached, and for each place the joins that stand there."""
    table = _table_of_marks(rows)
    found = [None] * len(rows)
    for place in _reached_rows(rows):
        row = rows[place]
        things = {name: table[name].held[place] for name in what_is_read(row)}
        target = what_is_written(row)
        if target is not None:
            target = table[target].by_row[place]
        found[place] = put_in(row, target, things)
    return found, _joins(comers_to(rows), table)


def writers_in(rows):
    """Tell for each name, or each mark of a form, the reached places whose rows write it, rising."""
    writers = {}
    for place in _reached_rows(rows):
        name = what_is_written(rows[place])
        if name is not None:
            writers.setdefault(name, []).append(place)
    return writers


class NameMarks:
    """The marks of one name: by_row and by_join, at which places they are written, and held, where each is held."""

    def __init__(self, rows, name, writers, joined):
        self._rows = rows
        self._name = name
        self.by_row = {}
        self.by_join = {}
        self.held = {}
        self._give_marks(writers, joined)

    def brought_from(self, comer):
        """Tell the mark with which one goes on from the place, behind its row."""
        if comer == BEGINNING:
            return (self._name, 0)
        if comer in self.by_row:
            return self.by_row[comer]
        return self.held[comer]

    def spread(self, wanting):
        """Set where each mark is held, behind the joins of those places that want the name."""
        waiting = self._arrivals(BEGINNING)
        for place in self.by_row:
            waiting.extend(self._arrivals(place))
        # All joins have theirs before any mark goes on, so that none goes on through a join.
        for place, mark in self.by_join.items():
            self.held[place] = mark
        for place in self.by_join:
            waiting.extend(self._arrivals(place))
        while waiting:
            place, mark = waiting.pop()
            if place in wanting and place not in self.held:
                self.held[place] = mark
                waiting.extend(self._arrivals(place))

    def _arrivals(self, place):
        mark = self.brought_from(place)
        return [(after, mark) for after in next_places(self._rows, place)]

    def _give_marks(self, writers, joined):
        number = 0
        for place in sorted(set(writers + joined)):
            if place in joined:
                number += 1
                self.by_join[place] = (self._name, number)
            if place in writers:
                number += 1
                self.by_row[place] = (self._name, number)


def _table_of_marks(rows):
    came = comers_to(rows)
    wanted = names_wanted(rows)
    writers = writers_in(rows)
    wanted_names = [name for names in wanted for name in names]
    table = {}
    for name in sorted(set(wanted_names + list(writers))):
        wanting = [place for place, names in enumerate(wanted) if name in names]
        places = writers.get(name, [])
        meeting_at = [place for place in wanting if len(came[place]) > 1]
        joined = [place for place in meeting_at if two_ways(rows, places, place) is not None]
        table[name] = NameMarks(rows, name, places, joined)
        table[name].spread(wanting)
    return table


def _joins(came, table):
    joins = [[] for _ in came]
    # The names of the table rise, and so do those of the joins at each place.
    for name, marks in table.items():
        for place, mark in marks.by_join.items():
            brought = [(comer, marks.brought_from(comer)) for comer in came[place]]
            joins[place].append((mark, brought))
    return joins


def _reached_rows(rows):
    return [place for place in sorted(places_found(rows)) if place < len(rows)]
