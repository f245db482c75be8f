"""The ways through rows: where they come to, and which names they want."""

from joinmarks.parts import BEGINNING, refuse_wrong, what_is_read, what_is_written


def reached(rows):
    """Tell the reached places, rising."""
    refuse_wrong(rows)
    return sorted(places_found(rows))


def comers(rows):
    """Tell for each place the reached places from which it can be come to, rising."""
    refuse_wrong(rows)
    return comers_to(rows)


def names_wanted(rows):
    """Tell for each place the names that are wanted there, rising."""
    refuse_wrong(rows)
    came = comers_to(rows)
    readers = _readers(rows)
    wanted = [[] for _ in came]
    for name in sorted(readers):
        for place in _places_wanting(rows, came, name, readers[name]):
            wanted[place].append(name)
    return wanted


def next_places(rows, place):
    """Tell the places that can come next, each once; none behind the end."""
    end = len(rows)
    if place == BEGINNING:
        return [0]
    if place == end:
        return []
    row = rows[place]
    word = row[0]
    if word == "stop":
        return [end]
    if word == "jump":
        return [row[1]]
    if word == "nought" and row[2] != place + 1:
        return [row[2], place + 1]
    return [place + 1]


def places_found(rows):
    """Tell the reached places of rows or of a form's rows; what all ways to a place come by stands ahead of it."""
    found = [0]
    known = {0}
    waiting = [0]
    while waiting:
        place = waiting.pop()
        for after in next_places(rows, place):
            if after not in known:
                known.add(after)
                found.append(after)
                waiting.append(after)
    return found


def comers_to(rows):
    """Tell what comers tells, of rows that have been looked at or of a form's rows."""
    came = [[] for _ in range(len(rows) + 1)]
    for place in [BEGINNING] + sorted(places_found(rows)):
        for after in next_places(rows, place):
            came[after].append(place)
    return came


def _readers(rows):
    readers = {}
    for place in sorted(places_found(rows)):
        if place < len(rows):
            for name in what_is_read(rows[place]):
                readers.setdefault(name, []).append(place)
    return readers


def _places_wanting(rows, came, name, readers):
    # From the readers back, a row that writes the name ends the search: ahead of
    # it the name is not wanted, unless that row is a reader itself.
    wanting = set(readers)
    waiting = list(readers)
    while waiting:
        place = waiting.pop()
        for comer in came[place]:
            if comer == BEGINNING or comer in wanting or what_is_written(rows[comer]) == name:
                continue
            wanting.add(comer)
            waiting.append(comer)
    return sorted(wanting)
