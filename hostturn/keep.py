"""Kept guests: a guest written as a text of twenty-one rows, and read again."""

from hostturn.errors import NoRow
from hostturn.figures import bounded, spaced
from hostturn.guest import Guest, is_width
from hostturn.words import SPANS, marks_of

KEPT_ROWS = 21
MOST_SENT = 2000
MOST_DONE = 999999999999999

# The rows of bytes stand behind these: width, boxes, marks, wards, sent.
FIRST_BYTES = 5
ROW_BYTES = 16

SIGNS = "0123456789abcdef"


def byte_row(told):
    """A row of bytes, two signs for each, the higher four bits first."""
    return "".join([SIGNS[byte // 16] + SIGNS[byte % 16] for byte in told])


def kept(guest):
    """The text as which the guest is kept."""
    width = guest.width
    place = guest.place
    done = guest.done
    rows = [
        f"width {width} place {place} done {done}",
        "boxes " + spaced(guest.boxes),
        "marks " + spaced(marks_of(width, guest.record)),
        "wards " + spaced(guest.wards),
        "sent " + spaced(guest.sent),
    ]
    for start in range(0, len(guest.floor), ROW_BYTES):
        rows.append(byte_row(guest.floor[start:start + ROW_BYTES]))
    return "\n".join(rows)


def read_head(row):
    """The width, place and count of the first row; None where it isn't such a row."""
    words = row.split(" ")
    if words[::2] != ["width", "place", "done"]:
        return None
    numbers = bounded(words[1::2], ((8, 32), (0, 255), (0, MOST_DONE)))
    return numbers if numbers is not None and is_width(numbers[0]) else None


def read_numbers(word, row, greatest, least_many, most_many):
    """The numbers behind the word, so many of them and none beyond the greatest; None where it isn't such a row."""
    words = row.split(" ")
    many = len(words) - 1
    if words[0] != word or many < least_many or many > most_many:
        return None
    return bounded(words[1:], [(0, greatest)] * many)


def read_wards(row):
    """The warded pages, rising, each once; None where it isn't such a row."""
    if row == "wards none":
        return []
    pages = read_numbers("wards", row, 15, 1, 16)
    return pages if pages is not None and pages == sorted(set(pages)) else None


def read_sent(row, greatest):
    """The numbers sent; None where it isn't such a row."""
    return [] if row == "sent none" else read_numbers("sent", row, greatest, 1, MOST_SENT)


def read_bytes(row):
    """The bytes of a row of bytes; None where it isn't one."""
    if len(row) != 2 * ROW_BYTES or not all([sign in SIGNS for sign in row]):
        return None
    fours = [SIGNS.index(sign) for sign in row]
    return [16 * high + low for high, low in zip(fours[::2], fours[1::2])]


def due(at, found):
    """What was found in a row; where nothing was, the row can't stand there."""
    if found is None:
        raise NoRow(at)
    return found


def read_kept(text):
    """The guest that is kept as this text."""
    if not isinstance(text, str):
        raise NoRow(0)
    rows = text.split("\n")
    # An empty row can't stand anywhere, so it does for each one that lacks.
    whole = rows + [""] * KEPT_ROWS
    head = due(0, read_head(whole[0]))
    width = head[0]
    greatest = SPANS[width] - 1
    boxes = due(1, read_numbers("boxes", whole[1], greatest, 8, 8))
    marks = due(2, read_numbers("marks", whole[2], 1, 4, 4))
    wards = due(3, read_wards(whole[3]))
    sent = due(4, read_sent(whole[4], greatest))
    floor = []
    for at in range(FIRST_BYTES, KEPT_ROWS):
        floor.extend(due(at, read_bytes(whole[at])))
    if len(rows) > KEPT_ROWS:
        raise NoRow(KEPT_ROWS)
    guest = Guest(width, floor, boxes, tuple(marks), wards, head[1])
    guest.sent = sent
    guest.done = head[2]
    return guest
