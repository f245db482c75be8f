"""What is to happen to names at once, as rows that do it one behind the other."""


def in_turn(moves, spare):
    """Tell set rows that put each thing into its name, as if at once; the spare name is free to be used.

    The moves are pairs of a name, each told once, and of a name or a number.
    """
    waiting = {name: thing for name, thing in moves if name != thing}
    rows = []
    while waiting:
        asked = list(waiting.values())
        free = [name for name in waiting if name not in asked]
        if free:
            rows.append(("set", free[0], waiting.pop(free[0])))
        else:
            # Rings alone are left: one name of a ring is kept aside, and asked for there.
            first = asked[0]
            rows.append(("set", spare, first))
            waiting = {name: spare if thing == first else thing for name, thing in waiting.items()}
    return rows
