"""The plain stepper: one guest step behind the other, as they lie on the floor."""

from hostturn.codes import step_at
from hostturn.guest import ask_of, fault_at
from hostturn.words import CARRY, fit, reckoned

# The kind of record that each word which adds or takes away makes.
SUM_KINDS = {
    "add": "sum",
    "addc": "sum",
    "addk": "sum",
    "sub": "less",
    "subc": "less",
    "cmp": "less",
    "cmpk": "less",
}


def address_of(guest, numbers):
    """The address of a get or set with these numbers."""
    return fit(guest.width, guest.boxes[numbers[1]] + numbers[2])


def place_behind(guest, found):
    """The place at which the guest goes on behind this step."""
    word = found.word()
    behind = guest.place + found.size(guest.width)
    if word == "go":
        return guest.boxes[found.numbers[0]] % 256
    if word == "jump" or (word == "jumpif" and ask_of(guest, found.numbers[0]) == 1):
        return (behind + found.numbers[-1]) % 256
    return behind % 256


def do_sum(guest, word, numbers):
    """A word that adds or takes away: its record, and its box but for cmp and cmpk."""
    one = guest.boxes[numbers[0]]
    is_small = word == "addk" or word == "cmpk"
    other = fit(guest.width, numbers[1]) if is_small else guest.boxes[numbers[1]]
    carry = ask_of(guest, CARRY) if word == "addc" or word == "subc" else 0
    kind = SUM_KINDS[word]
    guest.record = (kind, one, other, carry)
    if word != "cmp" and word != "cmpk":
        result = one + other + carry if kind == "sum" else one - other - carry
        guest.boxes[numbers[0]] = fit(guest.width, result)


def do_logic(guest, word, numbers):
    """and, or, xor: the record is of what the box has then."""
    result = reckoned(guest.width, word, guest.boxes[numbers[0]], guest.boxes[numbers[1]])
    guest.boxes[numbers[0]] = result
    guest.record = ("logic", result, 0, 0)


def do_shift(guest, word, numbers):
    """left, right: the record is of what the box had ahead."""
    ahead = guest.boxes[numbers[0]]
    guest.boxes[numbers[0]] = reckoned(guest.width, word, ahead, 0)
    guest.record = (word, ahead, 0, 0)


def do_count(guest, word, numbers):
    """more, fewer: the carry stays as it was, so it goes into the record."""
    ahead = guest.boxes[numbers[0]]
    carry = ask_of(guest, CARRY)
    guest.boxes[numbers[0]] = fit(guest.width, ahead + 1 if word == "more" else ahead - 1)
    guest.record = (word, ahead, 0, carry)


def do_bare(guest, word, numbers):
    """A word that makes no record."""
    if word == "put":
        guest.boxes[numbers[0]] = numbers[1]
    elif word == "copy":
        guest.boxes[numbers[0]] = guest.boxes[numbers[1]]
    elif word == "not":
        guest.boxes[numbers[0]] = reckoned(guest.width, word, guest.boxes[numbers[0]], 0)
    elif word == "get":
        guest.boxes[numbers[0]] = guest.floor[address_of(guest, numbers)]
    elif word == "set":
        guest.floor[address_of(guest, numbers)] = guest.boxes[numbers[0]] % 256
    elif word == "send":
        guest.sent.append(guest.boxes[numbers[0]])
    elif word == "mark":
        guest.boxes[numbers[0]] = ask_of(guest, numbers[1])


def do_step(guest, word, numbers):
    """What the step does but for place and count; jump, jumpif and go do nothing else."""
    if word in SUM_KINDS:
        do_sum(guest, word, numbers)
    elif word == "and" or word == "or" or word == "xor":
        do_logic(guest, word, numbers)
    elif word == "left" or word == "right":
        do_shift(guest, word, numbers)
    elif word == "more" or word == "fewer":
        do_count(guest, word, numbers)
    else:
        do_bare(guest, word, numbers)


def step(guest):
    """One step: "on" where it is done, else why nothing changes."""
    found = step_at(guest.width, guest.floor, guest.place)
    if found is None:
        return "none"
    word = found.word()
    if word == "stop":
        return "stop"
    if word == "get" or word == "set":
        fault = fault_at(guest, word, address_of(guest, found.numbers))
        if fault is not None:
            return fault
    place = place_behind(guest, found)
    do_step(guest, word, found.numbers)
    guest.place = place
    guest.done = guest.done + 1
    return "on"


def run_plain(guest, bell):
    """Steps till the count is the bell or more ("bell"), or till one tells anything but "on"."""
    while guest.done < bell:
        word = step(guest)
        if word != "on":
            return word
    return "bell"
