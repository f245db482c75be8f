"""The ways through rows: where they come to, and which names they want."""

from joinmarks.parts import name_written, names_read, refuse_wrong


def reached(rows):
    """Tell the reached places, rising."""
    refuse_wrong(rows)
    return _reached_places(rows)


def comers(rows):
    """Tell for each place the reached places from which it can be come to, rising."""
    refuse_wrong(rows)
    return _comers_to(rows, _reached_places(rows))


def names_wanted(rows):
    """Tell for each place the names that are wanted there, rising."""
    refuse_wrong(rows)
    places = _reached_places(rows)
    came = _comers_to(rows, places)
    readers = _readers(rows, places)
    wanted = [[] for _ in came]
    for name in sorted(readers):
        for place in _places_wanting(rows, came, name, readers[name]):
            wanted[place].append(name)
    return wanted


def next_places(rows, place):
    """Tell the places that can come next, each once; none behind the end."""
    end = len(rows)
    if place == end:
        return []
    row = rows[place]
    word = row[0]
    if word == "stop":
        return [end]
    if word == "jump":
        return [row[1]]
    if word == "nought" and row[2] != place + 1:
        return [row[2], place + 1]
    return [place + 1]


def _reached_places(rows):
    found = {0}
    waiting = [0]
    while waiting:
        place = waiting.pop()
        for after in next_places(rows, place):
            if after not in found:
                found.add(after)
                waiting.append(after)
    return sorted(found)


def _comers_to(rows, places):
    came = [[] for _ in range(len(rows) + 1)]
    came[0].append(-1)
    for place in places:
        for after in next_places(rows, place):
            came[after].append(place)
    return came


def _readers(rows, places):
    readers = {}
    for place in places:
        if place < len(rows):
            for name in names_read(rows[place]):
                readers.setdefault(name, []).append(place)
    return readers


def _places_wanting(rows, came, name, readers):
    # From the readers back, a row that writes the name ends the search: ahead of
    # it the name is not wanted, unless that row is a reader itself.
    wanting = set(readers)
    waiting = list(readers)
    while waiting:
        place = waiting.pop()
        for comer in came[place]:
            if comer == -1 or comer in wanting or name_written(rows[comer]) == name:
                continue
            wanting.add(comer)
            waiting.append(comer)
    return sorted(wanting)
