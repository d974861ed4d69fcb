"""The guest: eight boxes, a record of its marks, and a floor."""

from hostturn.errors import BadGuest
from hostturn.words import SPANS, asked, is_between, marks_of


def are_between(things, least, greatest):
    """True just where each of the things is a whole number of these bounds."""
    return all([is_between(thing, least, greatest) for thing in things])


def is_width(width):
    """True just where this is a width."""
    # That it is a whole number is asked first: what is no such thing may not be looked up.
    return is_between(width, 8, 32) and width in SPANS


def is_floor(floor):
    """True just where this is a list of 256 bytes."""
    return isinstance(floor, list) and len(floor) == 256 and are_between(floor, 0, 255)


def is_boxes(width, boxes):
    """True just where this is a list of eight numbers of the width."""
    return isinstance(boxes, list) and len(boxes) == 8 and are_between(boxes, 0, SPANS[width] - 1)


def is_marks(marks):
    """True just where this is a tuple of four marks."""
    return isinstance(marks, tuple) and len(marks) == 4 and are_between(marks, 0, 1)


def is_wards(wards):
    """True just where this is a list of pages."""
    return isinstance(wards, list) and are_between(wards, 0, 15)


def check_guest(width, floor, boxes, marks, wards, place):
    """Refuses what makes no guest; boxes, marks and wards may be left out."""
    if not is_width(width) or not is_floor(floor) or not is_between(place, 0, 255):
        raise BadGuest("a guest has a width, a floor of 256 bytes and a place on it")
    if boxes is not None and not is_boxes(width, boxes):
        raise BadGuest("a guest has eight boxes with numbers of its width")
    if marks is not None and not is_marks(marks):
        raise BadGuest("a guest has four marks, each 0 or 1")
    if wards is not None and not is_wards(wards):
        raise BadGuest("a guest's wards are pages from 0 to 15")


def record_of(marks):
    """The record in which marks lie as bits."""
    return ("bits", marks[0] + 2 * marks[1] + 4 * marks[2] + 8 * marks[3], 0, 0)


class Guest:
    """A guest; its lists are its own."""

    def __init__(self, width, floor, boxes=None, marks=None, wards=None, place=0):
        check_guest(width, floor, boxes, marks, wards, place)
        self.width = width
        self.floor = list(floor)
        self.boxes = [0] * 8 if boxes is None else list(boxes)
        self.record = record_of((0, 0, 0, 0) if marks is None else marks)
        self.wards = [] if wards is None else sorted(set(wards))
        self.place = place
        self.sent = []
        self.done = 0

    def stand(self):
        """The tuple (boxes, marks, floor, place, sent, done), its lists new each time."""
        marks = marks_of(self.width, self.record)
        return (list(self.boxes), marks, list(self.floor), self.place, list(self.sent), self.done)

    def is_ward(self, address):
        """True just where the address lies in a warded page."""
        return address // 16 in self.wards

    def twin(self):
        """A guest of its own that stands alike."""
        other = Guest(self.width, self.floor, self.boxes, None, self.wards, self.place)
        other.record = self.record
        other.sent = list(self.sent)
        other.done = self.done
        return other


def ask_of(guest, ask):
    """What an ask tells of the guest's marks, 1 or 0."""
    return asked(marks_of(guest.width, guest.record), ask)


def fault_at(guest, word, address):
    """The fault of a get or set at the address: "out", "ward", or None."""
    if address > 255:
        return "out"
    if word == "set" and guest.is_ward(address):
        return "ward"
    return None
