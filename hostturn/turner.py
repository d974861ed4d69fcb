"""The turner: a code's plain rows, with what is known ahead put in and what nobody asks for left out."""

from hostturn.plainrows import plain_rows
from hostturn.words import asked, marks_of, reckoned, used

# Rows of these words write a box from the numbers of others, and do nothing else.
RECKONING = ("copy", "not", "left", "right", "add", "sub", "and", "or", "xor")

# All rows that write a box and do nothing else.
WRITING = ("put", "copy", "not", "left", "right", "add", "sub", "and", "or", "xor", "mark")

# At a row of these words, and at the ends, a guest may stand as it does there.
LEAVING = ("get", "set", "leave", "part", "go", "stop")


def asked_boxes(row):
    """The boxes whose numbers the row uses."""
    word = row[0]
    if word in RECKONING:
        return list(row[2:])
    if word == "keep":
        return [row[2 + place] for place in used(row[1])]
    if word == "get":
        return [row[2]]
    if word == "set":
        return [row[1], row[3]]
    if word == "send" or word == "part" or word == "go":
        return [row[1]]
    return []


class Known:
    """What is known of the boxes and the record between two rows; None where it isn't."""

    def __init__(self, width):
        self.width = width
        self.boxes = [None] * 8 + [0] * 8
        self.record = None


def knows_asked(known, row):
    """True just where all boxes that the row asks for are known."""
    return all([known.boxes[box] is not None for box in asked_boxes(row)])


def known_number(known, row):
    """The number that a reckoning row writes, where all that it asks for is known."""
    one = known.boxes[row[2]]
    # Of a row with one box alone the last one is the same again; the other number isn't looked at there.
    return one if row[0] == "copy" else reckoned(known.width, row[0], one, known.boxes[row[-1]])


def put_in_row(known, row):
    """The row, or the one that does the same with what is known put in."""
    word = row[0]
    if word in RECKONING and knows_asked(known, row):
        return ("put", row[1], known_number(known, row))
    if word == "mark" and known.record is not None:
        return ("put", row[1], asked(marks_of(known.width, known.record), row[2]))
    if word == "part" and knows_asked(known, row):
        return ("leave", row[2], row[3] if known.boxes[row[1]] != 0 else row[4])
    return row


def note_row(known, row):
    """Behind the row this is known."""
    word = row[0]
    if word == "put":
        known.boxes[row[1]] = row[2]
    elif word in WRITING or word == "get":
        known.boxes[row[1]] = None
    elif word == "keep":
        # Boxes that the kind doesn't use may be unknown: nothing of them is looked at.
        record = (row[1], known.boxes[row[2]], known.boxes[row[3]], known.boxes[row[4]])
        known.record = record if knows_asked(known, row) else None


def put_in(width, rows):
    """The rows with all put in that is known ahead."""
    known = Known(width)
    told = []
    for row in rows:
        told.append(put_in_row(known, row))
        note_row(known, told[-1])
    return told


class Asked:
    """What is asked for behind a row, ahead of its next writing."""

    def __init__(self):
        self.boxes = {}
        self.record = False


def is_asked(behind, row):
    """True just where somebody asks for what the row does."""
    if row[0] in WRITING:
        return row[1] in behind.boxes
    return row[0] != "keep" or behind.record


def note_asked(behind, row):
    """Ahead of the row this is asked for: what it writes is no longer, what it uses is."""
    word = row[0]
    if word in WRITING or word == "get":
        behind.boxes.pop(row[1], None)
    if word == "keep":
        behind.record = False
    if word == "mark" or word in LEAVING:
        behind.record = True
    for box in asked_boxes(row) + (list(range(8)) if word in LEAVING else []):
        behind.boxes[box] = True


def leave_out(rows):
    """The rows without those that nobody asks for."""
    behind = Asked()
    told = []
    # From the last one on, so that a row for which only those left out asked is left out, too.
    for row in reversed(rows):
        if is_asked(behind, row):
            told.append(row)
            note_asked(behind, row)
    told.reverse()
    return told


def turned(width, place, code):
    """The house rows that do what the steps of the code do, no more of them than are asked for."""
    return leave_out(put_in(width, plain_rows(width, place, code)))
