"""Two ways that come to a place from different writes of a name, and share no place ahead of that one.

Joins count as writes of their names, but no join is started from here: where two ways come from
joins, there are two that come from rows or the beginning as well, as two such come to each join.
"""

from joinmarks.parts import BEGINNING
from joinmarks.ways import next_places, places_found

# Each place is two things, where one comes to it and where one goes on from it,
# so that a link between the two lets one way alone through.
TO = 0
FROM = 1
START = (-2, 1)


def two_ways(rows, writers, goal):
    """Tell two such ways, where these reached places, and the beginning, are the writes; or None."""
    sources = [BEGINNING] + writers
    links = _links(rows, sources)
    # A second search may go back along what the first one has taken: so the first one bars nothing.
    for _ in range(2):
        if not _take_free_way(links, (goal, TO)):
            return None
    taken = [place for place in sources if (place, FROM) not in links[START]]
    return [_way(rows, links, place, goal) for place in taken]


def _links(rows, sources):
    links = {START: [(place, FROM) for place in sources]}
    for place in [BEGINNING] + places_found(rows):
        links[(place, FROM)] = [(after, TO) for after in next_places(rows, place)]
        links[(place, TO)] = [] if place in sources else [(place, FROM)]
    return links


def _take_free_way(links, goal):
    # Each link that is taken is turned round, and may be taken back then.
    came = {START: None}
    waiting = [START]
    while waiting and goal not in came:
        one = waiting.pop(0)
        for other in links[one]:
            if other not in came:
                came[other] = one
                waiting.append(other)
    if goal not in came:
        return False
    other = goal
    while other != START:
        one = came[other]
        links[one].remove(other)
        links[other].append(one)
        other = one
    return True


def _way(rows, links, source, goal):
    way = [source]
    while len(way) == 1 or way[-1] != goal:
        place = way[-1]
        taken = [after for after in next_places(rows, place) if (place, FROM) in links[(after, TO)]]
        way.append(taken[0])
    return way
