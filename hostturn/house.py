"""House rows: which are right, and how they are run at a guest."""

from hostturn.errors import BadRows
from hostturn.guest import ask_of, fault_at
from hostturn.words import KINDS, fit, is_between, is_number, reckoned

MOST_ROWS = 100

# What stands behind the word in each form of row.
ROW_FORMS = {
    "put": ("box", "number"),
    "copy": ("box", "box"),
    "not": ("box", "box"),
    "left": ("box", "box"),
    "right": ("box", "box"),
    "add": ("box", "box", "box"),
    "sub": ("box", "box", "box"),
    "and": ("box", "box", "box"),
    "or": ("box", "box", "box"),
    "xor": ("box", "box", "box"),
    "keep": ("kind", "box", "box", "box"),
    "mark": ("box", "ask"),
    "get": ("box", "box", "number", "count", "place"),
    "set": ("box", "number", "box", "count", "place", "place"),
    "send": ("box",),
    "leave": ("count", "place"),
    "part": ("box", "count", "place", "place"),
    "go": ("box", "count"),
    "stop": ("count", "place"),
}

ENDS = ("leave", "part", "go", "stop")

# The greatest number of each sort whose numbers don't hang on the width.
GREATEST = {"box": 15, "ask": 7, "count": 99, "place": 255}


def is_row_part(width, sort, thing):
    """True just where the thing may stand in a row for its sort."""
    if sort == "kind":
        return isinstance(thing, str) and thing in KINDS
    if sort == "number":
        return is_number(width, thing)
    return is_between(thing, 0, GREATEST[sort])


def is_row(width, row):
    """True just where the row is of one of the forms."""
    if not isinstance(row, tuple) or len(row) == 0:
        return False
    # That the word is a text is asked first: not all things may be looked up.
    if not isinstance(row[0], str) or row[0] not in ROW_FORMS:
        return False
    form = ROW_FORMS[row[0]]
    if len(row) != 1 + len(form):
        return False
    return all([is_row_part(width, sort, thing) for sort, thing in zip(form, row[1:])])


def check_rows(width, rows):
    """Refuses rows that aren't right."""
    if not isinstance(rows, list) or len(rows) < 1 or len(rows) > MOST_ROWS:
        raise BadRows(None)
    last = len(rows) - 1
    for at, row in enumerate(rows):
        if not is_row(width, row) or (row[0] in ENDS) != (at == last):
            raise BadRows(at)


def reckoned_row(guest, boxes, row):
    """The number that a row which only writes a box writes there."""
    word = row[0]
    if word == "put":
        return row[2]
    if word == "mark":
        return ask_of(guest, row[2])
    if word == "copy":
        return boxes[row[2]]
    # Of a row with one box alone the last one is the same again; the other number isn't looked at there.
    return reckoned(guest.width, word, boxes[row[2]], boxes[row[-1]])


def run_get(guest, boxes, row):
    """A get is done: the end it makes, or None."""
    address = fit(guest.width, boxes[row[2]] + row[3])
    fault = fault_at(guest, "get", address)
    if fault is not None:
        return (fault, row[4], row[5])
    boxes[row[1]] = guest.floor[address]
    return None


def run_set(guest, boxes, row, watch):
    """A set is done, and the watch asked: the end it makes, or None."""
    address = fit(guest.width, boxes[row[1]] + row[2])
    fault = fault_at(guest, "set", address)
    if fault is not None:
        return (fault, row[4], row[5])
    guest.floor[address] = boxes[row[3]] % 256
    return ("on", row[4] + 1, row[6]) if watch(address) else None


def end_of(boxes, row):
    """What the last row tells."""
    word = row[0]
    if word == "leave":
        return ("on", row[1], row[2])
    if word == "part":
        return ("on", row[2], row[3] if boxes[row[1]] != 0 else row[4])
    if word == "go":
        return ("on", row[2], boxes[row[1]] % 256)
    return ("stop", row[1], row[2])


def run_row(guest, boxes, row, watch):
    """One row is done: the tuple with which the rows end, or None where they go on."""
    word = row[0]
    if word == "get":
        return run_get(guest, boxes, row)
    if word == "set":
        return run_set(guest, boxes, row, watch)
    if word in ENDS:
        return end_of(boxes, row)
    if word == "keep":
        guest.record = (row[1], boxes[row[2]], boxes[row[3]], boxes[row[4]])
    elif word == "send":
        guest.sent.append(boxes[row[1]])
    else:
        boxes[row[1]] = reckoned_row(guest, boxes, row)
    return None


def run_rows(guest, rows, watch):
    """Runs the rows at the guest: the tuple (word, n, q) with which they end."""
    check_rows(guest.width, rows)
    boxes = guest.boxes + [0] * 8
    end = None
    # A copy is walked, as the watch might change the list that was handed in.
    for row in list(rows):
        end = run_row(guest, boxes, row, watch)
        if end is not None:
            break
    for box in range(8):
        guest.boxes[box] = boxes[box]
    guest.place = end[2]
    guest.done = guest.done + end[1]
    return end
