"""What several tests use: the forms of the steps, floors, and numbers at the edges of each width."""

import itertools
import unittest

from hostturn.guest import Guest
from hostturn.steps import (
    Add, AddC, AddK, And, Cmp, CmpK, Copy, Fewer, Get, Go, Jump, JumpIf, Left, Mark, More, Not,
    Or, Put, Right, Send, Set, Stop, Sub, SubC, Xor,
)

WIDTHS = (8, 16, 32)
ALL_MARKS = list(itertools.product((0, 1), repeat=4))
LEAPS = (-128, -127, -2, -1, 0, 1, 2, 126, 127)
GREATEST = {8: 255, 16: 65535, 32: 4294967295}

# Each kind, in the order of its number: class, word, and what its numbers are.
FORMS = (
    (Stop, "stop", ""), (Put, "put", "rK"), (Copy, "copy", "rs"), (Add, "add", "rs"),
    (Sub, "sub", "rs"), (And, "and", "rs"), (Or, "or", "rs"), (Xor, "xor", "rs"),
    (Cmp, "cmp", "rs"), (AddC, "addc", "rs"), (SubC, "subc", "rs"), (AddK, "addk", "rd"),
    (CmpK, "cmpk", "rd"), (More, "more", "r"), (Fewer, "fewer", "r"), (Left, "left", "r"),
    (Right, "right", "r"), (Not, "not", "r"), (Get, "get", "rsd"), (Set, "set", "rsd"),
    (Send, "send", "r"), (Jump, "jump", "d"), (JumpIf, "jumpif", "rd"), (Go, "go", "r"),
    (Mark, "mark", "rs"),
)

LAST_WORDS = ("jump", "jumpif", "go", "stop")

# Each form of house row: its word, and what stands behind it.
ROW_FORMS = (
    ("put", "bK"), ("copy", "bb"), ("not", "bb"), ("left", "bb"), ("right", "bb"), ("add", "bbb"),
    ("sub", "bbb"), ("and", "bbb"), ("or", "bbb"), ("xor", "bbb"), ("keep", "kbbb"), ("mark", "ba"),
    ("get", "bbKnp"), ("set", "bKbnpp"), ("send", "b"), ("leave", "np"), ("part", "bnpp"), ("go", "bn"),
    ("stop", "np"),
)
ENDS = ("leave", "part", "go", "stop")


def greatest(sort, width):
    """The greatest number that may stand for one letter of a form of house row."""
    return {"b": 15, "a": 7, "n": 99, "p": 255, "K": GREATEST[width]}[sort]


def edges(width):
    """Numbers of the width: around 0, around the edge of the sign, and around the greatest."""
    half = 2 ** (width - 1)
    return [0, 1, 2, 3, half // 2, half - 2, half - 1, half, half + 1, 2 * half - 2, 2 * half - 1]


def patterns(width):
    """Edges, and numbers with bits here and there."""
    return edges(width) + [0x5A5A5A5A % 2 ** width, 0xC33C9669 % 2 ** width]


def is_whole(number):
    return isinstance(number, int) and not isinstance(number, bool)


def choices(sort, width):
    """Numbers that may stand for one letter of a form."""
    if sort == "K":
        greatest = GREATEST[width]
        numbers = {0, 1, 127, 128, 255, greatest // 2, greatest // 2 + 1, greatest - 1, greatest}
        return tuple(sorted(numbers))
    return LEAPS if sort == "d" else tuple(range(8))


def samples(width):
    """Every step of each form with boxes, asks, leaps and K of the choices."""
    for number, (kind, word, form) in enumerate(FORMS):
        for numbers in itertools.product(*(choices(sort, width) for sort in form)):
            yield number, kind, word, form, list(numbers)


def wanted_code(width, number, form, numbers):
    """A step's code once more, from its form."""
    low = numbers[0] if form[:1] == "r" else 0
    code = bytes([8 * number + low])
    for sort, part in zip(form, numbers):
        if sort == "K":
            code += part.to_bytes(width // 8, "little")
        elif sort == "d":
            code += part.to_bytes(1, "little", signed=True)
        elif sort == "s":
            code += bytes([part])
    return list(code)


def floor_with(code, place=0, rest=255):
    """A floor that has the code at the place, cut at its end; of the others no step begins with 255."""
    floor = [rest] * 256
    for address, byte in zip(range(place, 256), code):
        floor[address] = byte
    return floor


def code_of(width, *texts):
    """The bytes of these steps, one behind the other, reckoned from the forms above."""
    code = []
    for text in texts:
        word, *numbers = text.split(" ")
        number = [form[1] for form in FORMS].index(word)
        code += wanted_code(width, number, FORMS[number][2], [int(part) for part in numbers])
    return code


def floor_of(width, *texts):
    """A floor that has these steps from 0 on."""
    return floor_with(code_of(width, *texts))


def drawn_text(draw, width, is_last):
    """A drawn step's text, of a word that may stand as the last of a code alone or of another one."""
    word, form = draw.choice([form[1:] for form in FORMS if (form[1] in LAST_WORDS) == is_last])
    sorts = {"r": range(8), "s": range(8), "d": range(-128, 128), "K": choices("K", width)}
    return " ".join([word] + [str(draw.choice(sorts[sort])) for sort in form])


def drawn_texts(draw, width, many):
    """So many drawn steps that make a code; of the last ones some go elsewhere."""
    texts = [drawn_text(draw, width, False) for turn in range(many)]
    if draw.randrange(3) > 0:
        texts[-1] = drawn_text(draw, width, True)
    return texts


def drawn_guest(draw, width, code, place):
    """A drawn guest that has the code at its place; its boxes often lead to the floor, and to the code."""
    addresses = [0, 1, 15, 16, 254, 255, 256, 2 ** width - 1, place, place + len(code) - 1]
    numbers = edges(width) + [address % 2 ** width for address in addresses]
    boxes = [draw.choice(numbers) if draw.randrange(2) else draw.randrange(256) for turn in range(8)]
    floor = floor_with(code, place)
    for address in [*range(place), *range(place + len(code), 256)]:
        floor[address] = draw.randrange(256)
    wards = [draw.randrange(16) for turn in range(draw.choice((0, 0, 1, 5)))]
    marks = tuple(draw.randrange(2) for turn in range(4))
    return Guest(width, floor, boxes, marks, wards, place)


class Whole(unittest.TestCase):
    def assertWhole(self, told, wanted):
        """Equal, and no truth in the place of a number."""
        self.assertEqual(told, wanted)
        self.assertTrue(is_whole(told), repr(told))

    def assertMarks(self, told, wanted):
        self.assertIsInstance(told, tuple)
        self.assertEqual(told, wanted)
        for mark in told:
            self.assertTrue(is_whole(mark), repr(told))
