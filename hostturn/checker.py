"""The checker: whether house rows are shown to do what the steps of a code do."""

from hostturn.errors import HostError
from hostturn.house import ENDS, check_rows
from hostturn.plainrows import plain_rows
from hostturn.terms import Terms

# The asks that tell the four marks.
MARK_ASKS = (0, 2, 4, 6)


class Walk:
    """A walk through house rows with terms in the place of numbers, from any stand of a guest."""

    def __init__(self, table):
        nought = table.number(0)
        self.table = table
        self.boxes = [table.unknown("box", box) for box in range(8)] + [nought] * 8
        # Whatever record a guest has, its marks are those of some bits.
        self.record = ("bits", table.unknown("marks", 0), nought, nought)
        self.sent = []
        self.points = []


def told_stand(walk):
    """What a guest has if the rows end here: boxes, marks, and what was sent."""
    marks = [walk.table.mark(ask, walk.record) for ask in MARK_ASKS]
    return (walk.boxes[:8], marks, list(walk.sent))


def note_point(walk, what):
    """Keeps what is done at a point at which the rows may end, and how a guest stands there."""
    walk.points.append((what, told_stand(walk)))


def address_term(walk, box, number):
    """The term of the address that a box and a number lead to."""
    return walk.table.make("add", walk.boxes[box], walk.table.number(number))


def walk_get(walk, row):
    """A get: what it finds is unknown, but the same at the same point of each walk."""
    note_point(walk, ("get", address_term(walk, row[2], row[3]), row[4], row[5]))
    walk.boxes[row[1]] = walk.table.unknown("byte", len(walk.points))


def walk_set(walk, row):
    """A set: at the same points the same bytes are written, so the floors stay alike."""
    address = address_term(walk, row[1], row[2])
    note_point(walk, ("set", address, walk.boxes[row[3]], row[4], row[5], row[6]))


def end_form(walk, row):
    """The end, a leave in the place of those that are sure to lead to one place."""
    word = row[0]
    if word == "leave" or word == "stop":
        return row
    table = walk.table
    term = walk.boxes[row[1]]
    if word == "go":
        return ("leave", row[2], table.known(term) % 256) if table.is_known(term) else ("go", term, row[2])
    if row[3] == row[4]:
        return ("leave", row[2], row[3])
    if table.is_known(term):
        return ("leave", row[2], row[3] if table.known(term) != 0 else row[4])
    return ("part", term, row[2], row[3], row[4])


def written_term(walk, row):
    """The term that a row which only writes a box writes there."""
    word = row[0]
    if word == "put":
        return walk.table.number(row[2])
    if word == "mark":
        return walk.table.mark(row[2], walk.record)
    if word == "copy":
        return walk.boxes[row[2]]
    # Of a row with one box alone the last one is the same again; it isn't looked at there.
    return walk.table.make(word, walk.boxes[row[2]], walk.boxes[row[-1]])


def walk_row(walk, row):
    """One row is walked."""
    word = row[0]
    if word == "get":
        walk_get(walk, row)
    elif word == "set":
        walk_set(walk, row)
    elif word in ENDS:
        note_point(walk, end_form(walk, row))
    elif word == "keep":
        walk.record = (row[1], walk.boxes[row[2]], walk.boxes[row[3]], walk.boxes[row[4]])
    elif word == "send":
        walk.sent.append(walk.boxes[row[1]])
    else:
        walk.boxes[row[1]] = written_term(walk, row)


def points_of(table, rows):
    """The points at which the rows may end, in order."""
    walk = Walk(table)
    for row in rows:
        walk_row(walk, row)
    return walk.points


def shown(width, place, code, rows):
    """True where the rows are shown to do what the steps of the code do at the place."""
    try:
        check_rows(width, rows)
        plain = plain_rows(width, place, code)
        table = Terms(width)
        # Both walks draw on one table, so that what is alike is the same term.
        return points_of(table, plain) == points_of(table, rows)
    except HostError:
        # What isn't right, and what is more than a table takes, isn't shown.
        return False
