"""The desk: a guest and its turned run, told and asked by rows of words."""

from hostturn.codes import FLOOR_SIZE, listing, step_of
from hostturn.errors import NoRow, NoStep
from hostturn.figures import bounded, spaced
from hostturn.guest import Guest, is_width, record_of
from hostturn.keep import kept, read_kept
from hostturn.plain import run_plain
from hostturn.plainrows import code_at, code_steps
from hostturn.turned import Turned
from hostturn.words import SPANS, marks_of

# The least and the greatest number for each word behind the first one, where these are always the same.
ROW_BOUNDS = {
    "guest": ((8, 32),),
    "marks": ((0, 1), (0, 1), (0, 1), (0, 1)),
    "place": ((0, 255),),
    "shelf": ((1, 8), (1, 12)),
    "again": (),
    "run": ((0, 2000),),
    "plain": ((0, 2000),),
    "stand": (),
    "bytes": ((0, 255), (1, 256)),
    "sent": (),
    "list": ((0, 255), (0, 256)),
    "turned": ((0, 255),),
}

# What rows of these words tell is so from then on, and they empty the shelf.
TOLD_WORDS = ("poke", "box", "marks", "place", "ward", "shelf", "again")


def bounds_of(width, word, many):
    """The bounds of the numbers behind the word, where so many stand there; None where there is no such row."""
    if word == "box":
        return ((0, 7), (0, SPANS[width] - 1))
    if word == "poke":
        # An address, and one byte at least.
        return [(0, 255)] * max(many, 2)
    if word == "ward":
        return [(0, 15)] * many
    return ROW_BOUNDS.get(word)


def row_numbers(width, words):
    """The numbers of a row; None where it has none of the forms."""
    bounds = bounds_of(width, words[0], len(words) - 1)
    return None if bounds is None else bounded(words[1:], bounds)


def stand_text(guest):
    """How the guest stands, but for its floor and what it sent."""
    boxes = spaced(guest.boxes)
    marks = spaced(marks_of(guest.width, guest.record))
    place = guest.place
    done = guest.done
    return f"boxes {boxes} marks {marks} place {place} done {done}"


def list_text(guest, place, most):
    """The listing from the place on."""
    parts = [f"{at} {text}" for at, text in listing(guest.width, guest.floor, place, most)]
    return "; ".join(parts) if len(parts) > 0 else "none"


def steps_text(guest, place, most):
    """How many steps the code at the place has."""
    code = code_at(guest.width, guest.floor, place, most)
    return str(len(code_steps(guest.width, place, code))) if len(code) > 0 else "none"


def write_bytes(guest, start, told):
    """Writes the bytes from an address on: True, or False and nothing is written where they go beyond the floor."""
    if start + len(told) > FLOOR_SIZE:
        return False
    for at, byte in enumerate(told):
        guest.floor[start + at] = byte
    return True


def code_of_texts(width, texts):
    """The bytes of these steps, one behind the other; None where one is no step."""
    told = []
    try:
        for text in texts:
            told.extend(step_of(width, text).code(width))
    except NoStep:
        return None
    return told


class Desk:
    """A desk; at first it has no guest."""

    def __init__(self):
        self.held = None
        self.answered = 0

    def say(self, row):
        """The answer to a row; what is refused changes nothing."""
        answer = self.answer_to(row)
        if answer is None:
            raise NoRow(self.answered)
        self.answered = self.answered + 1
        return answer

    def answer_to(self, row):
        """The answer to a row, or None where it is refused."""
        if not isinstance(row, str):
            return None
        words = row.split(" ")
        if words[0] == "guest":
            return self.take_guest(words)
        if self.held is None:
            return None
        if words[0] == "code":
            return self.take_code(row)
        numbers = row_numbers(self.held.guest.width, words)
        if numbers is None:
            return None
        if words[0] in TOLD_WORDS:
            return self.take(words[0], numbers)
        return self.tell(words[0], numbers)

    def take_guest(self, words):
        """A new guest, with a shelf of its own."""
        numbers = bounded(words[1:], ROW_BOUNDS["guest"])
        if numbers is None or not is_width(numbers[0]):
            return None
        self.held = Turned(Guest(numbers[0], [0] * FLOOR_SIZE))
        return "ok"

    def take_code(self, row):
        """The bytes of steps are written from a place on."""
        guest = self.held.guest
        parts = row.split(" ", 2)
        numbers = bounded(parts[1:2], ((0, 255),))
        if numbers is None or len(parts) < 3:
            return None
        code = code_of_texts(guest.width, parts[2].split("; "))
        if code is None or not write_bytes(guest, numbers[0], code):
            return None
        return self.hold(guest, self.held.bound, self.held.most)

    def take(self, word, numbers):
        """What a row tells is so from now on."""
        guest = self.held.guest
        if word == "shelf":
            return self.hold(guest, numbers[0], numbers[1])
        if word == "poke":
            if not write_bytes(guest, numbers[0], numbers[1:]):
                return None
        elif word == "box":
            guest.boxes[numbers[0]] = numbers[1]
        elif word == "marks":
            guest.record = record_of(numbers)
        elif word == "place":
            guest.place = numbers[0]
        elif word == "ward":
            guest.wards = sorted(set(numbers))
        else:
            guest = read_kept(kept(guest))
        return self.hold(guest, self.held.bound, self.held.most)

    def hold(self, guest, bound, most):
        """The guest goes on with an empty shelf."""
        self.held = Turned(guest, bound, most)
        return "ok"

    def tell(self, word, numbers):
        """What a row asks for."""
        guest = self.held.guest
        if word == "run":
            return self.counted(self.held.run(numbers[0]))
        if word == "plain":
            told = run_plain(guest, numbers[0])
            self.hold(guest, self.held.bound, self.held.most)
            return self.counted(told)
        if word == "stand":
            return stand_text(guest)
        if word == "sent":
            return spaced(guest.sent)
        if word == "list":
            return list_text(guest, numbers[0], numbers[1])
        if word == "turned":
            return steps_text(guest, numbers[0], self.held.most)
        # What is left is bytes.
        found = guest.floor[numbers[0]:numbers[0] + numbers[1]]
        return spaced(found) if len(found) == numbers[1] else None

    def counted(self, word):
        """The word that a run told, and the count of steps."""
        done = self.held.guest.done
        return f"{word} {done}"
