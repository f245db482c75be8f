"""Rows, done one behind the other."""

from joinmarks.parts import is_number, refuse_wrong


def run(rows, values, most):
    """Tell what was said, "end" or "tired", and how many rows were done."""
    refuse_wrong(rows)
    held = dict(values)
    said = []
    place = 0
    done = 0
    while place < len(rows):
        if done >= most:
            return said, "tired", done
        do_row(rows[place], held, said)
        place = place_behind(rows, place, held)
        done += 1
    return said, "end", done


def worth(operand, held):
    """Tell what a number, a name or a mark is, where this is held."""
    if is_number(operand):
        return operand
    return held.get(operand, 0)


def do_row(row, held, said):
    """Write what the row writes into what is held, or say what it says."""
    word = row[0]
    if word == "say":
        said.append(worth(row[1], held))
    elif word == "set":
        held[row[1]] = worth(row[2], held)
    elif word in ("add", "sub", "less"):
        held[row[1]] = _worked_out(word, worth(row[2], held), worth(row[3], held))


def place_behind(rows, place, held):
    """Tell the place that comes next behind the row there, which has been done."""
    # Rows that choose where to go on write nothing, so asking behind the row is right.
    row = rows[place]
    word = row[0]
    if word == "stop":
        return len(rows)
    if word == "jump":
        return row[1]
    if word == "nought" and worth(row[1], held) == 0:
        return row[2]
    return place + 1


def _worked_out(word, first, second):
    if word == "add":
        return first + second
    if word == "sub":
        return first - second
    return 1 if first < second else 0
