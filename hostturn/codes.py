"""Steps found again: from their texts, and from the bytes of a floor."""

from hostturn.errors import NoStep
from hostturn.figures import figured
from hostturn.steps import (
    Add, AddC, AddK, And, Cmp, CmpK, Copy, Fewer, Get, Go, Jump, JumpIf, Left, Mark, More, Not,
    Or, Put, Right, Send, Set, Stop, Sub, SubC, Xor, KIND_WORDS,
)
from hostturn.words import is_between, is_number, signed

FLOOR_SIZE = 256

# What the numbers of each kind are, in the order of its text.
STEP_FORMS = {
    "stop": (),
    "put": ("box", "number"),
    "copy": ("box", "box"),
    "add": ("box", "box"),
    "sub": ("box", "box"),
    "and": ("box", "box"),
    "or": ("box", "box"),
    "xor": ("box", "box"),
    "cmp": ("box", "box"),
    "addc": ("box", "box"),
    "subc": ("box", "box"),
    "addk": ("box", "small"),
    "cmpk": ("box", "small"),
    "more": ("box",),
    "fewer": ("box",),
    "left": ("box",),
    "right": ("box",),
    "not": ("box",),
    "get": ("box", "box", "small"),
    "set": ("box", "box", "small"),
    "send": ("box",),
    "jump": ("small",),
    "jumpif": ("ask", "small"),
    "go": ("box",),
    "mark": ("box", "ask"),
}


def made_step(word, numbers):
    """The step of a word and its numbers; a class may be kept in no list, so each is called by name."""
    if word == "stop":
        return Stop(numbers)
    if word == "put":
        return Put(numbers)
    if word == "copy":
        return Copy(numbers)
    if word == "get":
        return Get(numbers)
    if word == "set":
        return Set(numbers)
    if word == "send":
        return Send(numbers)
    if word == "jump":
        return Jump(numbers)
    if word == "jumpif":
        return JumpIf(numbers)
    if word == "go":
        return Go(numbers)
    if word == "mark":
        return Mark(numbers)
    if len(numbers) == 1:
        return made_of_one(word, numbers)
    return made_of_two(word, numbers)


def made_of_one(word, numbers):
    """The step of a word that reckons with one box alone."""
    if word == "more":
        return More(numbers)
    if word == "fewer":
        return Fewer(numbers)
    if word == "left":
        return Left(numbers)
    if word == "right":
        return Right(numbers)
    return Not(numbers)


def made_of_two(word, numbers):
    """The step of a word that reckons with a box and another number."""
    if word == "add":
        return Add(numbers)
    if word == "sub":
        return Sub(numbers)
    if word == "and":
        return And(numbers)
    if word == "or":
        return Or(numbers)
    if word == "xor":
        return Xor(numbers)
    if word == "cmp":
        return Cmp(numbers)
    if word == "addc":
        return AddC(numbers)
    if word == "subc":
        return SubC(numbers)
    if word == "addk":
        return AddK(numbers)
    return CmpK(numbers)


def is_step_number(width, sort, number):
    """True just where the number may stand in a step for its sort."""
    if sort == "number":
        return is_number(width, number)
    if sort == "small":
        return is_between(number, -128, 127)
    return is_between(number, 0, 7)


def are_step_numbers(width, form, numbers):
    """True just where each number may stand for its part of the form."""
    return all([is_step_number(width, sort, number) for sort, number in zip(form, numbers)])


def step_of(width, row):
    """The step whose text the row is."""
    if not isinstance(row, str):
        raise NoStep(row)
    parts = row.split(" ")
    word = parts[0]
    if word not in STEP_FORMS or len(parts) != 1 + len(STEP_FORMS[word]):
        raise NoStep(row)
    numbers = [figured(part) for part in parts[1:]]
    if not are_step_numbers(width, STEP_FORMS[word], numbers):
        raise NoStep(row)
    return made_step(word, numbers)


def lowest_first(tail):
    """The number whose bytes these are, the lowest first."""
    told = 0
    for byte in reversed(tail):
        told = 256 * told + byte
    return told


def tail_numbers(form, tail):
    """The numbers that the bytes behind the first one stand for; the number of a put has them all."""
    if form == ("number",):
        return [lowest_first(tail)]
    return [signed(8, byte) if sort == "small" else byte for sort, byte in zip(form, tail)]


def tail_at(width, floor, start, form):
    """The bytes behind the first one, from start on; None where they go beyond the floor's end."""
    size = sum([width // 8 if sort == "number" else 1 for sort in form])
    if start + size > min(len(floor), FLOOR_SIZE):
        return None
    tail = floor[start:start + size]
    return tail if all([is_between(byte, 0, 255) for byte in tail]) else None


def step_at(width, floor, place):
    """The step whose code stands at the place of the floor, or None."""
    if place < 0 or place >= min(len(floor), FLOOR_SIZE):
        return None
    first = floor[place]
    if not is_between(first, 0, 8 * len(KIND_WORDS) - 1):
        return None
    word = KIND_WORDS[first // 8]
    form = STEP_FORMS[word]
    numbers = [first % 8]
    rest = form[1:]
    if word == "stop" or word == "jump":
        # These have no number in their first byte.
        if first % 8 != 0:
            return None
        numbers = []
        rest = form
    tail = tail_at(width, floor, place + 1, rest)
    if tail is None:
        return None
    numbers.extend(tail_numbers(rest, tail))
    return made_step(word, numbers) if are_step_numbers(width, form, numbers) else None


def listing(width, floor, place, most):
    """At most so many steps from the place on, each as a tuple (place, text)."""
    told = []
    while len(told) < most:
        found = step_at(width, floor, place)
        if found is None:
            break
        told.append((place, found.text()))
        place = place + found.size(width)
    return told
