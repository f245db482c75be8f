"""What several tests need: rows drawn by chance, and slow readings of the document to hold the program against."""

import itertools

WRITERS = ("set", "add", "sub", "less")


class Alike:
    """What says that it is the same as anything, and cannot be hashed or shown."""

    __hash__ = None

    def __eq__(self, other):
        return True

    def __repr__(self):
        raise RuntimeError("not to be shown")


class LikeAnyClass(type):
    """A class that says that it is the same as any other one."""

    __hash__ = type.__hash__

    def __eq__(self, other):
        return True

    def __ne__(self, other):
        return False


def saying(kind):
    """What says that it is of this kind, and is not."""
    return type("Saying", (), {"__class__": kind})()


def insisting(kind):
    """What says that it is of this kind, and whose class says that it is this very kind; neither is so."""
    parts = {"__class__": kind, "__len__": lambda self: 1, "__le__": lambda *_: True, "__eq__": lambda *_: True}
    return LikeAnyClass(kind.__name__, (), parts)()


def under(kind, *told):
    """What is of a class under this kind, plainly, and one that can't be hashed."""
    return [type("Under", (kind,), parts)(*told) for parts in ({}, {"__hash__": None})]


def drawn(chance, most=9, names="abc", numbers=(0, 1), least=0):
    """Some rows, over a few of the names, with jumps and noughts to everywhere."""
    end = chance.randint(least, most)
    names = list(names)[:chance.randint(1, len(names))]
    operands = names * 2 + list(numbers)
    words = ["set", "set", "add", "sub", "less", "say", "jump", "nought", "nought", "nought", "stop"]
    if chance.random() < 0.5:
        words.remove("stop")
    rows = []
    for _ in range(end):
        word = chance.choice(words)
        one, two = chance.choice(operands), chance.choice(operands)
        rows.append({
            "set": ("set", chance.choice(names), one),
            "say": ("say", one),
            "jump": ("jump", chance.randint(0, end)),
            "nought": ("nought", one, chance.randint(0, end)),
            "stop": ("stop",),
        }.get(word, (word, chance.choice(names), one, two)))
    return rows


def loops(chance, least=8, most=60, names="abcdefgh"):
    """Rows that go round a while: names count down, and copy, swap and change what the others hold meanwhile."""
    end = chance.randint(least, most)
    names = list(names)[:chance.randint(2, len(names))]
    rows = [("set", name, chance.randint(1, 4)) for name in names if chance.random() < 0.5]
    while len(rows) < end:
        here = len(rows)
        one, two, three = (chance.choice(names) for _ in range(3))
        rows.append(chance.choice([
            ("set", one, two), ("set", one, two), ("set", one, chance.randint(-2, 3)), ("sub", one, one, 1),
            ("sub", one, two, three), ("add", one, two, 1), ("less", one, two, three), ("say", one), ("say", one),
            ("nought", one, chance.randint(0, end)), ("nought", one, min(here + chance.randint(1, 5), end)),
            ("jump", min(here + chance.randint(1, 3), end)),
            ("nought", one, max(here - chance.randint(0, 9), 0)),
            ("jump", max(here - chance.randint(1, 9), 0)) if chance.random() < 0.5 else ("say", two),
        ]))
    return rows


def beginnings(chance, names="abcdefgh"):
    """Several dicts of numbers to begin with."""
    return [{}] + [{name: chance.choice([0, 1, 2, 3, -1, 10 ** 21]) for name in names} for _ in range(2)]


def writes(row):
    return row[1] if row[0] in WRITERS else None


def reads(row):
    """What a row reads: names, or marks, not numbers."""
    operands = row[2:] if row[0] in WRITERS else row[1:2] if row[0] in ("say", "nought") else ()
    return [thing for thing in operands if not isinstance(thing, int)]


def follow(rows, place):
    """Point 6: where one can come to next."""
    if place == -1:
        return [0]
    if place == len(rows):
        return []
    row = rows[place]
    if row[0] == "jump":
        return [row[1]]
    if row[0] == "stop":
        return [len(rows)]
    return sorted({place + 1} | ({row[2]} if row[0] == "nought" else set()))


def leads_to(rows):
    """Point 6, again and again until nothing is new."""
    places = {0}
    while True:
        more = places.union(*[follow(rows, place) for place in places])
        if more == places:
            return sorted(places)
        places = more


def come_from(rows, goal):
    return [place for place in [-1] + leads_to(rows) if goal in follow(rows, place)]


def wants(rows, place, name):
    """Point 7 read forwards: walk on from the place until a row reads or writes the name."""
    seen, open_places = set(), [place]
    while open_places:
        at = open_places.pop()
        if at in seen or at == len(rows):
            continue
        seen.add(at)
        if name in reads(rows[at]):
            return True
        if writes(rows[at]) != name:
            open_places.extend(follow(rows, at))
    return False


def ways_to(rows, name, start, goal):
    """All ways from a write at start to goal that come by no place twice ahead of goal, and by no other write."""
    ways, open_ways = [], [(start,)]
    while open_ways:
        way = open_ways.pop()
        for after in follow(rows, way[-1]):
            if after == goal:
                ways.append(way + (goal,))
            elif after not in way and writes(rows[after] if after < len(rows) else ("stop",)) != name:
                open_ways.append(way + (after,))
    return ways


def joined(rows, name):
    """Point 11 as it stands there: joins are put in, and count as writes, until there are no more of them."""
    places = leads_to(rows)
    row_writes = [at for at in places if at < len(rows) and writes(rows[at]) == name]
    wanting = [at for at in places if wants(rows, at, name)]
    joins = []
    while True:
        # A join ahead of a row that writes the name is passed on no further.
        starts = [-1] + row_writes + [at for at in joins if at not in row_writes]
        more = [goal for goal in wanting if goal not in joins and _two_meet(rows, name, starts, goal)]
        if not more:
            return sorted(joins)
        joins.extend(more)


def _two_meet(rows, name, starts, goal):
    ways = [(start, set(way[:-1])) for start in starts for way in ways_to(rows, name, start, goal)]
    return any(one[0] != two[0] and not one[1] & two[1] for one, two in itertools.combinations(ways, 2))


def walk(rows, values, most):
    """Done step by step: the places of the rows that were done, what each one said, and whether the end was come to."""
    held, place, steps = dict(values), 0, []
    worth = lambda operand: operand if isinstance(operand, int) else held.get(operand, 0)
    while place < len(rows) and len(steps) < most:
        row = rows[place]
        steps.append((place, [worth(row[1])] if row[0] == "say" else []))
        if row[0] == "set":
            held[row[1]] = worth(row[2])
        elif row[0] in WRITERS:
            one, two = worth(row[2]), worth(row[3])
            held[row[1]] = {"add": one + two, "sub": one - two, "less": int(one < two)}[row[0]]
        if row[0] == "jump" or row[0] == "nought" and worth(row[1]) == 0:
            place = row[-1]
        else:
            place = len(rows) if row[0] == "stop" else place + 1
    return steps, place == len(rows)


class Plain:
    """What a form tells, as lists that a test may look through and change."""

    def __init__(self, once):
        self.rows = [once.row(place) for place in range(once.size)]
        self.joins = [once.joins(place) for place in range(once.size + 1)]
        self.wanted = [once.wanted(place) for place in range(once.size + 1)]
        self.reached = leads_to(self.rows)

    def __eq__(self, other):
        return (self.rows, self.joins, self.wanted) == (other.rows, other.joins, other.wanted)

    def targets(self, place):
        return [mark for mark, _ in self.joins[place]]

    def written(self):
        """All marks that are written, one that were written twice twice."""
        marks = [writes(row) for row in self.rows if row is not None and writes(row) is not None]
        return marks + [mark for place in range(len(self.joins)) for mark in self.targets(place)]

    def brought(self, place, after):
        """What is brought from a place to the joins of the next one."""
        return [thing for _, pairs in self.joins[after] for comer, thing in pairs if comer == place]

    def behind(self, place):
        """The marks that are wanted behind the row of a place, or at the beginning, ahead of all joins."""
        marks = set()
        for after in follow(self.rows, place):
            marks |= {thing for thing in self.brought(place, after) if isinstance(thing, tuple)}
            marks |= {mark for mark in self.asked if self.reads_on(after, mark) and mark not in self.targets(after)}
        return marks

    @property
    def asked(self):
        found = {mark for row in self.rows if row is not None for mark in reads(row)}
        things = [thing for joins in self.joins for _, pairs in joins for _, thing in pairs]
        return found | {thing for thing in things if isinstance(thing, tuple)}

    def reads_on(self, place, mark):
        """Point 15 read forwards, behind the joins of the place."""
        seen, open_places = set(), [place]
        while open_places:
            at = open_places.pop()
            if at in seen or at == len(self.rows):
                continue
            seen.add(at)
            if mark in reads(self.rows[at]):
                return True
            if writes(self.rows[at]) == mark:
                continue
            for after in follow(self.rows, at):
                if mark in self.brought(at, after):
                    return True
                if mark not in self.targets(after):
                    open_places.append(after)
        return False


def made_shorter(plain):
    """Points 13 and 14, one copy and one mark at a time: the rows and the joins of the shortened form."""
    rows, joins = list(plain.rows), [[(mark, list(pairs)) for mark, pairs in stand] for stand in plain.joins]
    copies = {row[1]: row[2] for row in rows if row is not None and row[0] == "set"}
    rows = [("pass",) if row is not None and row[0] == "set" else row for row in rows]
    while copies:
        copy, thing = copies.popitem()
        put = lambda one: thing if one == copy else one
        copies = {mark: put(other) for mark, other in copies.items()}
        rows = [row if row is None else _with_read(row, put) for row in rows]
        joins = [
            [(mark, [(at, put(other)) for at, other in pairs]) for mark, pairs in stand if mark != copy]
            for stand in joins
        ]
        if not copies:
            brought = [(mark, [other for _, other in pairs if other != mark]) for stand in joins for mark, pairs in stand]
            copies = dict([(mark, others[0]) for mark, others in brought if len(set(others)) == 1][:1])
    return _needed_ones(rows, joins)


def _with_read(row, put):
    if row[0] in WRITERS:
        return row[:2] + tuple(put(thing) for thing in row[2:])
    if row[0] in ("say", "nought"):
        return (row[0], put(row[1])) + row[2:]
    return row


def _needed_ones(rows, joins):
    needed = {mark for row in rows if row is not None and row[0] in ("say", "nought") for mark in reads(row)}
    while True:
        asks = [(writes(row), reads(row)) for row in rows if row is not None]
        asks += [(mark, [thing for _, thing in pairs]) for stand in joins for mark, pairs in stand]
        more = needed.union(*[things for mark, things in asks if mark in needed])
        if more == needed:
            break
        needed = more
    rows = [row if row is None or writes(row) is None or writes(row) in needed else ("pass",) for row in rows]
    return rows, [[join for join in stand if join[0] in needed] for stand in joins]
