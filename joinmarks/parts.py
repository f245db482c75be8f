"""What a row is made of, what it reads and writes, and the refusal of what is no row."""

from joinmarks.errors import BadPlace, BadRow

PARTS = {
    "set": ("name", "operand"),
    "add": ("name", "operand", "operand"),
    "sub": ("name", "operand", "operand"),
    "less": ("name", "operand", "operand"),
    "say": ("operand",),
    "jump": ("goal",),
    "nought": ("operand", "goal"),
    "stop": (),
}

# What stands in a shortened form for a row left out; no row that is handed in may be one.
PASS = ("pass",)

BEGINNING = -1

LONGEST_NAME = 8

# What a thing is, its class alone tells. isinstance would believe what a thing only says of itself, and
# would take classes under the one meant, whose things may not be compared, counted or hashed as plain ones are.


def is_number(thing):
    """Tell whether it is a whole number; True and False are none."""
    return type(thing) is int


def is_name(thing):
    """Tell whether it is a text of 1 to 8 signs from a to z."""
    if type(thing) is not str or not 1 <= len(thing) <= LONGEST_NAME:
        return False
    return all(["a" <= sign <= "z" for sign in thing])


def is_place(thing, end):
    """Tell whether it is a whole number from 0 to the end."""
    return is_number(thing) and 0 <= thing <= end


def _fits(thing, part):
    # A wrong goal makes no wrong row: it has a refusal of its own.
    if part == "goal":
        return True
    if part == "operand" and is_number(thing):
        return True
    return is_name(thing)


def is_row(thing):
    """Tell whether it is a row, whatever its goal is."""
    if type(thing) is not tuple or len(thing) == 0:
        return False
    word = thing[0]
    # Only a text is looked up: what cannot be hashed would fail there.
    if type(word) is not str or word not in PARTS:
        return False
    parts = PARTS[word]
    if len(thing) != len(parts) + 1:
        return False
    return all([_fits(told, part) for told, part in zip(thing[1:], parts)])


def has_goal(row):
    """Tell whether the row has a goal, which then is the last thing in it."""
    return "goal" in PARTS[row[0]]


def refuse_wrong(rows):
    """Refuse what is no list, then the first row that is none or has a wrong goal."""
    if type(rows) is not list:
        raise BadRow("the rows are no list")
    # The messages don't show what was handed in: showing it could fail, too.
    for place, row in enumerate(rows):
        if not is_row(row):
            raise BadRow(f"what stands at place {place} is no row")
        if has_goal(row) and not is_place(row[-1], len(rows)):
            raise BadPlace(f"the goal of the row at place {place} is no place")


def what_is_written(row):
    """Tell the name, or in a form the mark, that the row writes, or None."""
    if "name" in PARTS.get(row[0], ()):
        return row[1]
    return None


def what_is_read(row):
    """Tell the names, or in a form the marks, that the row reads, one that is read twice twice."""
    parts = PARTS.get(row[0], ())
    return [told for part, told in zip(parts, row[1:]) if part == "operand" and not is_number(told)]


def put_in(row, target, things):
    """Tell the row with this target to write, if it writes, and with what things tells for what it reads."""
    told = [row[0]]
    for part, thing in zip(PARTS.get(row[0], ()), row[1:]):
        if part == "name":
            told.append(target)
        elif part == "operand":
            told.append(things.get(thing, thing))
        else:
            told.append(thing)
    return tuple(told)
