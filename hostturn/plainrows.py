"""Codes, and their plain rows: step by step what the guest's steps do."""

from hostturn.codes import FLOOR_SIZE, step_at
from hostturn.errors import NoCode
from hostturn.plain import SUM_KINDS
from hostturn.words import CARRY, fit, is_between

# A code goes no further behind a step of these words.
LAST_WORDS = ("jump", "jumpif", "go", "stop")

# No plain row writes this box, so it has 0 all the while.
NOUGHT_BOX = 15

# Boxes in which a step's rows keep the ask, and a number of their own.
ASK_BOX = 8
NUMBER_BOX = 9


def code_at(width, floor, place, most):
    """The bytes of at most so many steps from the place on, to the first that goes elsewhere."""
    told = []
    for turn in range(most):
        found = step_at(width, floor, place)
        if found is None:
            break
        told.extend(found.code(width))
        if found.word() in LAST_WORDS:
            break
        place = place + found.size(width)
    return told


def code_steps(width, place, code):
    """The steps that fill a code for the place, as tuples (place, step); NoCode where it isn't right."""
    if not isinstance(code, list) or len(code) == 0 or not is_between(place, 0, FLOOR_SIZE - len(code)):
        raise NoCode("a code is a list of bytes that lies on the floor from its place on")
    told = []
    at = 0
    while at < len(code):
        # The code itself is looked at like a floor, so that no step goes beyond its end.
        found = step_at(width, code, at)
        if found is None:
            raise NoCode("a code is filled by steps")
        told.append((place + at, found))
        at = at + found.size(width)
        if found.word() in LAST_WORDS and at < len(code):
            raise NoCode("a step that goes elsewhere is a code's last one")
    return told


def sum_rows(word, box, other):
    """The rows of add and sub, and of cmp, which only makes a record."""
    told = [("keep", SUM_KINDS[word], box, other, NOUGHT_BOX)]
    if word != "cmp":
        told.append((word, box, box, other))
    return told


def carry_rows(word, box, other):
    """The rows of addc and subc."""
    reckons = "add" if word == "addc" else "sub"
    return [
        ("mark", ASK_BOX, CARRY),
        ("keep", SUM_KINDS[word], box, other, ASK_BOX),
        (reckons, NUMBER_BOX, box, other),
        (reckons, box, NUMBER_BOX, ASK_BOX),
    ]


def count_rows(word, box):
    """The rows of more and fewer."""
    return [
        ("mark", ASK_BOX, CARRY),
        ("keep", word, box, NOUGHT_BOX, ASK_BOX),
        ("put", NUMBER_BOX, 1),
        ("add" if word == "more" else "sub", box, box, NUMBER_BOX),
    ]


def rows_of_one(word, box):
    """The rows of a word with one box alone."""
    if word == "not":
        return [("not", box, box)]
    if word == "left" or word == "right":
        return [("keep", word, box, NOUGHT_BOX, NOUGHT_BOX), (word, box, box)]
    if word == "send":
        return [("send", box)]
    return count_rows(word, box)


def rows_of_two(word, box, other):
    """The rows of a word with two boxes."""
    if word == "copy":
        return [("copy", box, other)]
    if word == "add" or word == "sub" or word == "cmp":
        return sum_rows(word, box, other)
    if word == "addc" or word == "subc":
        return carry_rows(word, box, other)
    return [(word, box, box, other), ("keep", "logic", box, NOUGHT_BOX, NOUGHT_BOX)]


def rows_with_number(width, word, box, number):
    """The rows of a word with a box and a number or an ask."""
    if word == "put":
        return [("put", box, number)]
    if word == "mark":
        return [("mark", box, number)]
    # What is left is addk and cmpk: the number is put in a box, and that one added or compared.
    rest = sum_rows("add" if word == "addk" else "cmp", box, NUMBER_BOX)
    return [("put", NUMBER_BOX, fit(width, number))] + rest


def last_rows(step_number, place, behind, found):
    """The rows of a step that goes elsewhere; behind is the place behind its bytes."""
    word = found.word()
    numbers = found.numbers
    if word == "jump":
        return [("leave", step_number + 1, (behind + numbers[0]) % FLOOR_SIZE)]
    if word == "jumpif":
        goal = (behind + numbers[1]) % FLOOR_SIZE
        return [("mark", ASK_BOX, numbers[0]), ("part", ASK_BOX, step_number + 1, goal, behind)]
    if word == "go":
        return [("go", numbers[0], step_number + 1)]
    return [("stop", step_number, place)]


def step_rows(width, step_number, place, behind, found):
    """The rows of one step of a code."""
    word = found.word()
    numbers = found.numbers
    if word in LAST_WORDS:
        return last_rows(step_number, place, behind, found)
    if word == "get":
        return [("get", numbers[0], numbers[1], fit(width, numbers[2]), step_number, place)]
    if word == "set":
        return [("set", numbers[1], fit(width, numbers[2]), numbers[0], step_number, place, behind)]
    if len(numbers) == 1:
        return rows_of_one(word, numbers[0])
    if word == "put" or word == "addk" or word == "cmpk" or word == "mark":
        return rows_with_number(width, word, numbers[0], numbers[1])
    return rows_of_two(word, numbers[0], numbers[1])


def plain_rows(width, place, code):
    """The house rows that do what the steps of the code do, step by step."""
    steps = code_steps(width, place, code)
    told = []
    for step_number, step in enumerate(steps):
        at = step[0]
        found = step[1]
        behind = (at + found.size(width)) % FLOOR_SIZE
        told.extend(step_rows(width, step_number, at, behind, found))
    if steps[-1][1].word() not in LAST_WORDS:
        told.append(("leave", len(steps), (place + len(code)) % FLOOR_SIZE))
    return told
