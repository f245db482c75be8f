"""Rows, done one behind the other."""

from joinmarks.parts import refuse_wrong


def run(rows, values, most):
    """Tell what was said, "end" or "tired", and how many rows were done."""
    refuse_wrong(rows)
    held = dict(values)
    said = []
    place = 0
    done = 0
    while place < len(rows):
        if done >= most:
            return said, "tired", done
        _do_row(rows[place], held, said)
        place = _place_behind(rows, place, held)
        done += 1
    return said, "end", done


def worked_out(word, first, second):
    """Tell what a row with this word makes of two numbers."""
    if word == "add":
        return first + second
    if word == "sub":
        return first - second
    return 1 if first < second else 0


def _worth(operand, held):
    if isinstance(operand, str):
        return held.get(operand, 0)
    return operand


def _do_row(row, held, said):
    word = row[0]
    if word == "say":
        said.append(_worth(row[1], held))
    elif word == "set":
        held[row[1]] = _worth(row[2], held)
    elif word in ("add", "sub", "less"):
        held[row[1]] = worked_out(word, _worth(row[2], held), _worth(row[3], held))


def _place_behind(rows, place, held):
    # Rows that choose where to go on write nothing, so asking behind the row is right.
    row = rows[place]
    word = row[0]
    if word == "stop":
        return len(rows)
    if word == "jump":
        return row[1]
    if word == "nought" and _worth(row[1], held) == 0:
        return row[2]
    return place + 1
