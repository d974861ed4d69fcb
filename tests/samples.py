"""What several tests use: the forms of the steps, floors, and numbers at the edges of each width."""

import itertools
import unittest

from hostturn.codes import step_at
from hostturn.guest import Guest
from hostturn.house import run_rows
from hostturn.plain import step
from hostturn.steps import (
    Add, AddC, AddK, And, Cmp, CmpK, Copy, Fewer, Get, Go, Jump, JumpIf, Left, Mark, More, Not,
    Or, Put, Right, Send, Set, Stop, Sub, SubC, Xor,
)

WIDTHS = (8, 16, 32)
ALL_MARKS = list(itertools.product((0, 1), repeat=4))
LEAPS = (-128, -127, -2, -1, 0, 1, 2, 126, 127)
GREATEST = {8: 255, 16: 65535, 32: 4294967295}

# Each kind, in the order of its number: class, word, and what its numbers are.
FORMS = (
    (Stop, "stop", ""), (Put, "put", "rK"), (Copy, "copy", "rs"), (Add, "add", "rs"),
    (Sub, "sub", "rs"), (And, "and", "rs"), (Or, "or", "rs"), (Xor, "xor", "rs"),
    (Cmp, "cmp", "rs"), (AddC, "addc", "rs"), (SubC, "subc", "rs"), (AddK, "addk", "rd"),
    (CmpK, "cmpk", "rd"), (More, "more", "r"), (Fewer, "fewer", "r"), (Left, "left", "r"),
    (Right, "right", "r"), (Not, "not", "r"), (Get, "get", "rsd"), (Set, "set", "rsd"),
    (Send, "send", "r"), (Jump, "jump", "d"), (JumpIf, "jumpif", "rd"), (Go, "go", "r"),
    (Mark, "mark", "rs"),
)

LAST_WORDS = ("jump", "jumpif", "go", "stop")

# Each form of house row: its word, and what stands behind it.
ROW_FORMS = (
    ("put", "bK"), ("copy", "bb"), ("not", "bb"), ("left", "bb"), ("right", "bb"), ("add", "bbb"),
    ("sub", "bbb"), ("and", "bbb"), ("or", "bbb"), ("xor", "bbb"), ("keep", "kbbb"), ("mark", "ba"),
    ("get", "bbKnp"), ("set", "bKbnpp"), ("send", "b"), ("leave", "np"), ("part", "bnpp"), ("go", "bn"),
    ("stop", "np"),
)
ENDS = ("leave", "part", "go", "stop")
ROW_PARTS = dict(ROW_FORMS)
WRITING = ("put", "copy", "not", "left", "right", "add", "sub", "and", "or", "xor", "mark")

# Codes with steps that hang on one another, at places here and there.
CODES = (
    (0, ("more 1", "jumpif 0 5")),
    (9, ("add 1 2", "addc 3 4", "jumpif 4 -9")),
    (20, ("put 1 40", "set 2 1 -3", "get 3 1 -3", "send 3", "stop")),
    (30, ("get 1 2 5", "addk 1 -1", "set 1 2 5", "jump -8")),
    (100, ("set 1 2 0", "set 3 4 1", "get 5 2 0", "go 5")),
    (77, ("cmpk 1 7", "mark 2 2", "fewer 2", "subc 2 3", "send 2", "jumpif 7 127")),
    (5, ("xor 1 1", "left 2", "right 3", "not 4", "and 5 6", "or 6 7")),
    (240, ("copy 1 2", "send 1", "sub 1 3", "send 1", "cmp 1 2", "go 1")),
    (128, ("put 7 3", "addk 7 4", "send 7", "mark 6 5")),
    (64, ("send 0", "send 1", "get 0 0 0", "stop")),
)


def greatest(sort, width):
    """The greatest number that may stand for one letter of a form of house row."""
    return {"b": 15, "a": 7, "n": 99, "p": 255, "K": GREATEST[width]}[sort]


def edges(width):
    """Numbers of the width: around 0, around the edge of the sign, and around the greatest."""
    half = 2 ** (width - 1)
    return [0, 1, 2, 3, half // 2, half - 2, half - 1, half, half + 1, 2 * half - 2, 2 * half - 1]


def patterns(width):
    """Edges, and numbers with bits here and there."""
    return edges(width) + [0x5A5A5A5A % 2 ** width, 0xC33C9669 % 2 ** width]


def is_whole(number):
    return isinstance(number, int) and not isinstance(number, bool)


def choices(sort, width):
    """Numbers that may stand for one letter of a form."""
    if sort == "K":
        greatest = GREATEST[width]
        numbers = {0, 1, 127, 128, 255, greatest // 2, greatest // 2 + 1, greatest - 1, greatest}
        return tuple(sorted(numbers))
    return LEAPS if sort == "d" else tuple(range(8))


def samples(width):
    """Every step of each form with boxes, asks, leaps and K of the choices."""
    for number, (kind, word, form) in enumerate(FORMS):
        for numbers in itertools.product(*(choices(sort, width) for sort in form)):
            yield number, kind, word, form, list(numbers)


def wanted_code(width, number, form, numbers):
    """A step's code once more, from its form."""
    low = numbers[0] if form[:1] == "r" else 0
    code = bytes([8 * number + low])
    for sort, part in zip(form, numbers):
        if sort == "K":
            code += part.to_bytes(width // 8, "little")
        elif sort == "d":
            code += part.to_bytes(1, "little", signed=True)
        elif sort == "s":
            code += bytes([part])
    return list(code)


def floor_with(code, place=0, rest=255):
    """A floor that has the code at the place, cut at its end; of the others no step begins with 255."""
    floor = [rest] * 256
    for address, byte in zip(range(place, 256), code):
        floor[address] = byte
    return floor


def code_of(width, *texts):
    """The bytes of these steps, one behind the other, reckoned from the forms above."""
    code = []
    for text in texts:
        word, *numbers = text.split(" ")
        number = [form[1] for form in FORMS].index(word)
        code += wanted_code(width, number, FORMS[number][2], [int(part) for part in numbers])
    return code


def floor_of(width, *texts):
    """A floor that has these steps from 0 on."""
    return floor_with(code_of(width, *texts))


def drawn_text(draw, width, is_last):
    """A drawn step's text, of a word that may stand as the last of a code alone or of another one."""
    word, form = draw.choice([form[1:] for form in FORMS if (form[1] in LAST_WORDS) == is_last])
    sorts = {"r": range(8), "s": range(8), "d": range(-128, 128), "K": choices("K", width)}
    return " ".join([word] + [str(draw.choice(sorts[sort])) for sort in form])


def drawn_texts(draw, width, many):
    """So many drawn steps that make a code; of the last ones some go elsewhere."""
    texts = [drawn_text(draw, width, False) for turn in range(many)]
    if draw.randrange(3) > 0:
        texts[-1] = drawn_text(draw, width, True)
    return texts


def drawn_guest(draw, width, code, place):
    """A drawn guest that has the code at its place; its boxes often lead to the floor, and to the code."""
    addresses = [0, 1, 15, 16, 254, 255, 256, 2 ** width - 1, place, place + len(code) - 1]
    numbers = edges(width) + [address % 2 ** width for address in addresses]
    boxes = [draw.choice(numbers) if draw.randrange(2) else draw.randrange(256) for turn in range(8)]
    floor = floor_with(code, place)
    for address in [*range(place), *range(place + len(code), 256)]:
        floor[address] = draw.randrange(256)
    wards = [draw.randrange(16) for turn in range(draw.choice((0, 0, 1, 5)))]
    marks = tuple(draw.randrange(2) for turn in range(4))
    return Guest(width, floor, boxes, marks, wards, place)


def wanted_end(guest, many, watch):
    """The plain steps of a code are done, many of them at most, as far as its rows may go: how rows end."""
    for n in range(many):
        found = step_at(guest.width, guest.floor, guest.place)
        address = None
        if found.word() == "set":
            address = (guest.boxes[found.numbers[1]] + found.numbers[2]) % 2 ** guest.width
        word = step(guest)
        if word != "on":
            return word, n, guest.place
        if address is not None and watch(address):
            return "on", n + 1, guest.place
    return "on", many, guest.place


def comes_out(rows, many, guest, watch):
    """True where the rows, run at this guest, end as the steps of the code do, and it stands alike."""
    plain, other = guest.twin(), guest.twin()
    end = wanted_end(plain, many, watch)
    return run_rows(other, rows, watch) == end and other.stand() == plain.stand()


def drawn_watch(draw, code, place):
    """A watch that says yes for each address of the code, and perhaps for others."""
    yes = set(range(place, place + len(code)))
    yes.update(draw.randrange(256) for turn in range(draw.choice((0, 0, 3, 100))))
    if draw.randrange(8) == 0:
        yes.update(range(256))
    return yes.__contains__


def drawn_filler(draw, width, boxes):
    """A row that writes none but these boxes, and asks for any."""
    word = draw.choice(WRITING)
    asked = [*range(16), *boxes, *boxes]
    parts = {"b": asked, "K": edges(width), "a": range(8)}
    return (word, draw.choice(boxes)) + tuple(draw.choice(parts[sort]) for sort in ROW_PARTS[word][1:])


def with_fillers(draw, width, rows, many):
    """The rows with so many put in ahead of the last one."""
    boxes = draw.sample(range(10, 15), draw.randrange(1, 6))
    told = list(rows)
    for turn in range(many):
        told.insert(draw.randrange(len(told)), drawn_filler(draw, width, boxes))
    return told


def program_text(draw, width, place, starts):
    """A drawn step: boxes 0 to 3 are addresses, 4 to 7 are what is written, often a step of one byte."""
    address, byte = draw.randrange(4), draw.randrange(4, 8)
    back = [start for start in starts if place + 2 - start <= 128]
    return draw.choice((
        *[f"{word} {byte}" for word in ("more", "fewer", "left", "right", "not", "send")],
        *[f"set {byte} {address} {draw.randrange(-9, 10)}"] * 3,
        f"get {byte} {address} {draw.randrange(-3, 4)}",
        f"put {address} {draw.randrange(256)}",
        f"put {address} {min(place + draw.randrange(9), 255)}",
        f"put {byte} {draw.choice((104, 112, 120, 136, 160, 168)) + draw.randrange(4, 8)}",
        f"addk {address} {draw.randrange(-3, 4)}",
        f"cmpk {byte} {draw.randrange(-3, 4)}",
        f"jump {draw.choice(back) - place - 2}" if back and draw.randrange(3) == 0 else f"more {address}",
        f"jumpif {draw.randrange(8)} {draw.choice(back) - place - 2}" if back else "jump 0",
        drawn_text(draw, width, draw.randrange(9) == 0),
    ))


def drawn_program(draw, width):
    """A drawn guest with steps all over its floor; many of them write, often over the steps themselves."""
    floor, starts = [], []
    while len(floor) < 256:
        starts.append(len(floor))
        floor += code_of(width, program_text(draw, width, len(floor), starts))
    boxes = [draw.randrange(256) for turn in range(4)] + [104 + draw.randrange(40) for turn in range(4)]
    wards = [draw.randrange(16)] if draw.randrange(4) == 0 else None
    place = draw.choice([start for start in starts if start < 256])
    return Guest(width, floor[:256], boxes, tuple(draw.randrange(2) for turn in range(4)), wards, place)


def wrong_codes(width):
    """Codes that aren't right, with their places: of other kinds, no steps, cut off, too long, beyond the floor."""
    for code in (None, 0, True, "", "stop", (), (0,), {}, {0: 0}, b"\0", 1.5, object(), []):
        yield 0, code
    for byte in (256, -1, 1000, None, True, False, "0", 0.0, [0], (0,), *range(200, 256), *range(1, 8), 169, 175):
        yield 0, [byte]
        yield 0, [104, byte]
        yield 5, [byte, 0]
        yield 5, [104, byte, 0, 0]
    for number, (kind, word, form) in enumerate(FORMS):
        code = code_of(width, " ".join([word, *["1"] * len(form)]))
        for size in range(1, len(code)):
            yield 0, code[:size]
            yield 0, [104] + code[:size]
            yield 256 - size, code[:size]
        yield 0, code + [255]
        yield 257 - len(code), code
        yield 300, code
        yield -1, code
        if "s" in form:
            yield 0, [8 * number, 8] + [0] * (len(form) - 2)
        if word in LAST_WORDS:
            for behind in ("stop", "more 1", "jump 0", "put 1 1"):
                yield 0, code + code_of(width, behind)
                yield 9, [104] + code + code_of(width, behind)


class Whole(unittest.TestCase):
    def assertWhole(self, told, wanted):
        """Equal, and no truth in the place of a number."""
        self.assertEqual(told, wanted)
        self.assertTrue(is_whole(told), repr(told))

    def assertMarks(self, told, wanted):
        self.assertIsInstance(told, tuple)
        self.assertEqual(told, wanted)
        for mark in told:
            self.assertTrue(is_whole(mark), repr(told))
