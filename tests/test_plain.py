"""Stage 3, [3.4] to [3.6], and [0.2]: one step, what each kind does, and a plain run to a bell."""

import itertools
import random
import unittest

from hostturn.guest import Guest
from hostturn.plain import run_plain, step
from hostturn.words import marks_of
from samples import (
    ALL_MARKS, FORMS, LEAPS, WIDTHS, Whole, edges, floor_of, floor_with, is_whole, patterns, wanted_code,
)

SUMS = {"add": "sum", "addc": "sum", "addk": "sum", "sub": "less", "subc": "less", "cmp": "less",
        "cmpk": "less"}
BITWISE = {"and": int.__and__, "or": int.__or__, "xor": int.__xor__}


def wanted_of(width, word, numbers, boxes, marks, record):
    """The boxes and the record behind a step that touches nothing else, from those ahead."""
    span = 2 ** width
    boxes = list(boxes)
    r, last = numbers[0], numbers[-1]
    a, carry = boxes[r], marks[2]
    if word == "put":
        boxes[r] = last
    elif word == "copy":
        boxes[r] = boxes[last]
    elif word in SUMS:
        b = last % span if word in ("addk", "cmpk") else boxes[last]
        c = carry if word in ("addc", "subc") else 0
        record = (SUMS[word], a, b, c)
        if not word.startswith("cmp"):
            boxes[r] = (a + (b + c) * (1 if SUMS[word] == "sum" else -1)) % span
    elif word in BITWISE:
        boxes[r] = BITWISE[word](a, boxes[last])
        record = ("logic", boxes[r], 0, 0)
    elif word == "not":
        boxes[r] = span - 1 - a
    elif word == "left":
        boxes[r], record = a * 2 % span, ("left", a, 0, 0)
    elif word == "right":
        boxes[r], record = a >> 1, ("right", a, 0, 0)
    elif word in ("more", "fewer"):
        boxes[r], record = (a + (1 if word == "more" else span - 1)) % span, (word, a, 0, carry)
    elif word == "mark":
        boxes[r] = marks[last // 2] ^ last % 2
    return boxes, record


class Stepper(Whole):
    def guest(self, width, text, boxes=(), marks=(0, 0, 0, 0), wards=None, place=0, rest=255):
        """A guest that stands at this step."""
        code = floor_of(width, text)[:self.size(width, text)]
        boxes = (list(boxes) + [0] * 8)[:8]
        return Guest(width, floor_with(code, place, rest), boxes, marks, wards, place)

    def size(self, width, text):
        word = text.split(" ")[0]
        form = {row[1]: row[2] for row in FORMS}[word]
        return {"": 1, "r": 1, "rK": 1 + width // 8, "rsd": 3}.get(form, 2)

    def check(self, guest, word, boxes=None, marks=None, floor=None, place=None, sent=None, record=None,
              done=None):
        """One step tells the word; what isn't named stays, but the count."""
        stand, ahead = guest.stand(), guest.record
        self.assertEqual(step(guest), word)
        more = 1 if word == "on" else 0
        self.assertEqual(guest.stand(), (
            stand[0] if boxes is None else boxes,
            stand[1] if marks is None else marks,
            stand[2] if floor is None else floor,
            stand[3] if place is None else place,
            stand[4] if sent is None else sent,
            stand[5] + more,
        ))
        self.assertEqual(guest.record, ahead if record is None else record)
        for number in (*guest.boxes, *guest.floor, *guest.sent, *guest.record[1:], guest.place, guest.done):
            self.assertTrue(is_whole(number))


class Example(Stepper):
    def test_the_documents_example(self):
        guest = Guest(8, floor_with([25, 2, 176]), [0, 200, 100, 0, 0, 0, 0, 0])
        self.check(guest, "on", boxes=[0, 44, 100, 0, 0, 0, 0, 0], record=("sum", 200, 100, 0),
                   marks=(0, 0, 1, 0), place=2)


class Kinds(Stepper):
    def check_text(self, width, text, boxes, marks):
        word, *numbers = text.split(" ")
        guest = self.guest(width, text, boxes, marks)
        wanted, record = wanted_of(
            width, word, [int(number) for number in numbers], guest.boxes, marks, guest.record)
        self.check(guest, "on", boxes=wanted, record=record, marks=marks_of(width, record),
                   place=self.size(width, text))

    def test_kinds_of_two_boxes(self):
        words = ("copy", "add", "sub", "and", "or", "xor", "cmp", "addc", "subc")
        for width, word, carry in itertools.product(WIDTHS, words, (0, 1)):
            for one, other in itertools.product(patterns(width), repeat=2):
                self.check_text(width, f"{word} 3 5", [9, 9, 9, one, 9, other, 9, 9], (0, 1, carry, 1))

    def test_one_box_twice(self):
        words = ("copy", "add", "sub", "and", "or", "xor", "cmp", "addc", "subc")
        for width, word, carry in itertools.product(WIDTHS, words, (0, 1)):
            for one in patterns(width):
                self.check_text(width, f"{word} 7 7", [3] * 7 + [one], (1, 0, carry, 0))

    def test_every_pair_of_boxes(self):
        boxes = [3, 17, 240, 128, 99, 255, 0, 127]
        for word, r, s in itertools.product(("copy", "add", "subc", "xor", "cmp"), range(8), range(8)):
            self.check_text(8, f"{word} {r} {s}", boxes, (0, 0, 1, 0))

    def test_kinds_of_one_box(self):
        for width, word in itertools.product(WIDTHS, ("more", "fewer", "left", "right", "not")):
            for one, carry, box in itertools.product(patterns(width), (0, 1), (0, 4, 7)):
                boxes = [6] * 8
                boxes[box] = one
                self.check_text(width, f"{word} {box}", boxes, (1, 1, carry, 1))

    def test_kinds_of_a_small_number(self):
        for width, word, k, carry in itertools.product(WIDTHS, ("addk", "cmpk"), LEAPS, (0, 1)):
            for one in patterns(width):
                self.check_text(width, f"{word} 2 {k}", [1, 1, one], (0, 0, carry, 0))

    def test_put(self):
        for width in WIDTHS:
            for number, box in itertools.product(patterns(width), (0, 7)):
                self.check_text(width, f"put {box} {number}", [5] * 8, (1, 0, 1, 0))

    def test_mark(self):
        for width, marks, ask in itertools.product(WIDTHS, ALL_MARKS, range(8)):
            self.check_text(width, f"mark 1 {ask}", [9] * 8, marks)

    def test_written_out(self):
        for text, boxes, marks, wanted, record, told in (
            ("add 0 1", [255, 1], (0, 0, 1, 0), [0, 1], ("sum", 255, 1, 0), (1, 0, 1, 0)),
            ("addc 0 1", [255, 1], (0, 0, 1, 0), [1, 1], ("sum", 255, 1, 1), (0, 0, 1, 0)),
            ("addc 0 1", [255, 1], (1, 1, 0, 1), [0, 1], ("sum", 255, 1, 0), (1, 0, 1, 0)),
            ("sub 0 1", [0, 1], (0, 0, 1, 0), [255, 1], ("less", 0, 1, 0), (0, 1, 1, 0)),
            ("subc 0 1", [5, 4], (0, 0, 1, 0), [0, 4], ("less", 5, 4, 1), (1, 0, 0, 0)),
            ("subc 0 0", [5], (0, 0, 1, 0), [255], ("less", 5, 5, 1), (0, 1, 1, 0)),
            ("cmp 0 1", [127, 128], (0, 0, 0, 0), [127, 128], ("less", 127, 128, 0), (0, 1, 1, 1)),
            ("addk 0 -1", [0], (0, 0, 0, 0), [255], ("sum", 0, 255, 0), (0, 1, 0, 0)),
            ("addk 0 -128", [128], (0, 0, 0, 0), [0], ("sum", 128, 128, 0), (1, 0, 1, 1)),
            ("cmpk 0 -1", [255], (0, 0, 0, 0), [255], ("less", 255, 255, 0), (1, 0, 0, 0)),
            ("and 0 1", [12, 10], (1, 1, 1, 1), [8, 10], ("logic", 8, 0, 0), (0, 0, 0, 0)),
            ("or 0 1", [12, 10], (1, 1, 1, 1), [14, 10], ("logic", 14, 0, 0), (0, 0, 0, 0)),
            ("xor 0 0", [255], (0, 1, 1, 1), [0], ("logic", 0, 0, 0), (1, 0, 0, 0)),
            ("not 0", [0], (1, 0, 1, 0), [255], ("bits", 5, 0, 0), (1, 0, 1, 0)),
            ("left 0", [129], (0, 0, 0, 0), [2], ("left", 129, 0, 0), (0, 0, 1, 0)),
            ("right 0", [129], (0, 0, 0, 0), [64], ("right", 129, 0, 0), (0, 0, 1, 0)),
            ("more 0", [255], (0, 0, 1, 0), [0], ("more", 255, 0, 1), (1, 0, 1, 0)),
            ("more 0", [255], (1, 1, 0, 1), [0], ("more", 255, 0, 0), (1, 0, 0, 0)),
            ("fewer 0", [0], (0, 0, 1, 0), [255], ("fewer", 0, 0, 1), (0, 1, 1, 0)),
            ("fewer 0", [128], (0, 0, 0, 0), [127], ("fewer", 128, 0, 0), (0, 0, 0, 1)),
            ("put 0 200", [1], (0, 1, 0, 0), [200], ("bits", 2, 0, 0), (0, 1, 0, 0)),
            ("copy 0 1", [1, 7], (0, 0, 0, 1), [7, 7], ("bits", 8, 0, 0), (0, 0, 0, 1)),
            ("mark 0 5", [9], (0, 0, 1, 0), [0], ("bits", 4, 0, 0), (0, 0, 1, 0)),
            ("mark 0 4", [9], (0, 0, 1, 0), [1], ("bits", 4, 0, 0), (0, 0, 1, 0)),
        ):
            with self.subTest(text=text, boxes=boxes, marks=marks):
                guest = self.guest(8, text, boxes, marks)
                self.check(guest, "on", boxes=(wanted + [0] * 8)[:8], record=record, marks=told,
                           place=self.size(8, text))

    def test_send(self):
        for width, box in itertools.product(WIDTHS, range(8)):
            for number in edges(width):
                boxes = [4] * 8
                boxes[box] = number
                guest = self.guest(width, f"send {box}", boxes, (0, 1, 0, 1))
                self.check(guest, "on", sent=[number], place=1)

    def test_sent_numbers_stand_in_their_order(self):
        guest = Guest(16, floor_of(16, "send 1", "send 0", "send 1", "more 1", "send 1"), [300, 65535] + [0] * 6)
        self.assertEqual(run_plain(guest, 5), "bell")
        self.assertEqual(guest.sent, [65535, 300, 65535, 0])

    def test_the_carry_ahead_comes_from_each_kind_of_record(self):
        for width in WIDTHS:
            top = 2 ** width - 1
            for ahead, carry in (
                ("cmpk 6 1", 1), ("cmpk 6 0", 0), ("addk 7 1", 1), ("addk 6 1", 0), ("left 7", 1),
                ("left 6", 0), ("right 7", 1), ("right 6", 0), ("and 7 7", 0), ("cmp 6 7", 1),
            ):
                for word, kind, b in (("addc 0 1", "sum", 3), ("subc 0 1", "less", 3),
                                      ("more 0", "more", 0), ("fewer 0", "fewer", 0)):
                    guest = Guest(width, floor_of(width, ahead, word), [5, 3, 0, 0, 0, 0, 0, top])
                    self.assertEqual((step(guest), step(guest)), ("on", "on"))
                    self.assertEqual(guest.record, (kind, 5, b, carry))
                    wanted = {"sum": 8 + carry, "less": (2 - carry), "more": 6, "fewer": 4}[kind]
                    self.assertEqual(guest.boxes[0], wanted)

    def test_more_and_fewer_hand_the_carry_on(self):
        for carry in (0, 1):
            floor = floor_of(8, "more 0", "fewer 1", "more 2", "mark 3 4")
            guest = Guest(8, floor, [255, 0, 127, 9, 0, 0, 0, 0], (0, 0, carry, 0))
            self.assertEqual(run_plain(guest, 4), "bell")
            self.assertEqual((guest.boxes[:4], guest.record), ([0, 255, 128, carry], ("more", 127, 0, carry)))


class GetAndSet(Stepper):
    def test_get(self):
        for width, address in itertools.product(WIDTHS, (0, 1, 127, 128, 254, 255)):
            for d in LEAPS:
                base = (address - d) % 2 ** width
                guest = self.guest(width, f"get 1 2 {d}", [7, 7, base, 7], (0, 1, 0, 1), None, 50)
                guest.floor[address] = 50 + address // 2 if address not in (50, 51, 52) else 0
                wanted = list(guest.boxes)
                wanted[1] = guest.floor[address]
                self.check(guest, "on", boxes=wanted, place=53)

    def test_set(self):
        for width, address in itertools.product(WIDTHS, (0, 1, 127, 128, 254, 255)):
            for d, number in itertools.product(LEAPS, patterns(width)):
                base = (address - d) % 2 ** width
                guest = self.guest(width, f"set 1 2 {d}", [7, number, base, 7], (1, 0, 1, 0), None, 50)
                wanted = list(guest.floor)
                wanted[address] = number % 256
                self.check(guest, "on", floor=wanted, place=53)

    def test_one_box_twice(self):
        for width in WIDTHS:
            guest = self.guest(width, "get 2 2 5", [0, 0, 100])
            guest.floor[105] = 33
            self.check(guest, "on", boxes=[0, 0, 33, 0, 0, 0, 0, 0], place=3)
            guest = self.guest(width, "set 2 2 5", [0, 0, 100])
            wanted = list(guest.floor)
            wanted[105] = 100
            self.check(guest, "on", floor=wanted, place=3)

    def test_get_reads_its_own_bytes_and_warded_ones(self):
        guest = self.guest(16, "get 3 0 1", wards=list(range(16)))
        self.check(guest, "on", boxes=[0, 0, 0, 0, 0, 0, 0, 0], place=3)
        guest = self.guest(16, "get 3 0 0", wards=list(range(16)))
        self.check(guest, "on", boxes=[0, 0, 0, 147, 0, 0, 0, 0], place=3)

    def test_set_over_its_own_bytes_goes_on_behind_them(self):
        guest = self.guest(8, "set 1 0 0", [0, 255])
        wanted = list(guest.floor)
        wanted[0] = 255
        self.check(guest, "on", floor=wanted, place=3)

    def test_out(self):
        for width, word in itertools.product((16, 32), ("get", "set")):
            for address in (256, 257, 2 ** (width - 1), 2 ** width - 1):
                for d, wards in itertools.product(LEAPS, (None, list(range(16)))):
                    base = (address - d) % 2 ** width
                    guest = self.guest(width, f"{word} 1 2 {d}", [0, 9, base], (0, 0, 1, 0), wards)
                    self.check(guest, "out")

    def test_never_out_at_8_bits(self):
        for base, d in itertools.product((0, 1, 127, 128, 254, 255), LEAPS):
            guest = self.guest(8, f"get 1 2 {d}", [0, 0, base], place=40)
            wanted = [0, guest.floor[(base + d) % 256], base, 0, 0, 0, 0, 0]
            self.check(guest, "on", boxes=wanted, place=43)

    def test_below_0_is_out_at_more_bits(self):
        for width, word in itertools.product((16, 32), ("get", "set")):
            self.check(self.guest(width, f"{word} 1 2 -1", [0, 9, 0]), "out")
            self.check(self.guest(width, f"{word} 1 2 -128", [0, 9, 127]), "out")

    def test_ward(self):
        for width, page in itertools.product(WIDTHS, range(16)):
            for address in (16 * page - 1, 16 * page, 16 * page + 15, 16 * page + 16):
                if not 0 <= address <= 255:
                    continue
                guest = self.guest(width, "set 1 2 -1", [0, 9, address + 1 if address < 255 or width > 8 else 0],
                                   (0, 1, 0, 0), [page, page], 200)
                if address // 16 == page:
                    self.check(guest, "ward")
                else:
                    wanted = list(guest.floor)
                    wanted[address] = 9
                    self.check(guest, "on", floor=wanted, place=203)


class Places(Stepper):
    def test_each_kind_goes_on_behind_its_bytes(self):
        for width, (number, (kind, word, form)) in itertools.product(WIDTHS, enumerate(FORMS)):
            if word in ("stop", "jump", "jumpif", "go"):
                continue
            code = wanted_code(width, number, form, [1] * len(form))
            for place in (0, 1, 100, 255 - len(code), 256 - len(code)):
                guest = Guest(width, floor_with(code, place), [1] * 8, None, None, place)
                self.assertEqual(step(guest), "on")
                self.assertEqual((guest.place, guest.done), ((place + len(code)) % 256, 1))

    def test_each_kind_cut_by_the_floors_end(self):
        for width, (number, (kind, word, form)) in itertools.product(WIDTHS, enumerate(FORMS)):
            code = wanted_code(width, number, form, [1] * len(form))
            for place in range(257 - len(code), 256):
                guest = Guest(width, floor_with(code, place, 0), [1] * 8, (0, 1, 0, 0), None, place)
                self.check(guest, "none")

    def test_jump(self):
        for width, place, d in itertools.product(WIDTHS, (0, 1, 100, 253, 254), LEAPS):
            guest = self.guest(width, f"jump {d}", [1] * 8, (0, 1, 0, 1), None, place)
            self.check(guest, "on", place=(place + 2 + d) % 256)

    def test_jump_written_out(self):
        for place, d, wanted in (
            (0, 0, 2), (10, -2, 10), (0, -3, 255), (254, 0, 0), (254, 1, 1), (254, -1, 255),
            (254, 127, 127), (0, -128, 130), (126, -128, 0), (127, 127, 0),
        ):
            self.check(self.guest(8, f"jump {d}", place=place), "on", place=wanted)

    def test_jumpif(self):
        for width, marks, ask, d in itertools.product(WIDTHS, ALL_MARKS, range(8), (-128, -2, 0, 127)):
            goes = marks[ask // 2] if ask % 2 == 0 else 1 - marks[ask // 2]
            guest = self.guest(width, f"jumpif {ask} {d}", [1] * 8, marks, None, 254)
            self.check(guest, "on", place=d % 256 if goes else 0)

    def test_jumpif_by_a_reckoned_record(self):
        for text, goes in (("cmpk 0 5", 1), ("cmpk 0 6", 0)):
            guest = Guest(8, floor_of(8, text, "jumpif 0 20"), [5] + [0] * 7)
            self.assertEqual((step(guest), step(guest)), ("on", "on"))
            self.assertEqual((guest.place, guest.done), (24 if goes else 4, 2))

    def test_go(self):
        for width, box in itertools.product(WIDTHS, (0, 3, 7)):
            for number in patterns(width) + [255, 128, 77]:
                boxes = [9] * 8
                boxes[box] = number
                guest = self.guest(width, f"go {box}", boxes, (1, 0, 0, 1), None, 60)
                self.check(guest, "on", place=number % 256)

    def test_go_beyond_the_floor_is_taken_modulo_256(self):
        for width, number, wanted in ((16, 256, 0), (16, 511, 255), (32, 65536 + 40, 40)):
            self.check(self.guest(width, "go 0", [number]), "on", place=wanted)


class NothingChanges(Stepper):
    def test_none(self):
        for width, first in itertools.product(WIDTHS, [*range(1, 8), *range(169, 176), *range(200, 256)]):
            guest = Guest(width, floor_with([first, 0, 0], 9, 0), [1] * 8, (0, 1, 1, 0), [2], 9)
            self.check(guest, "none")
        for width, code in itertools.product(WIDTHS, ([25, 8], [147, 9, 0], [195, 8])):
            self.check(Guest(width, floor_with(code)), "none")

    def test_stop(self):
        for width, place in itertools.product(WIDTHS, (0, 77, 255)):
            guest = self.guest(width, "stop", [3] * 8, (1, 0, 0, 1), [1], place)
            self.check(guest, "stop")
            self.check(guest, "stop")

    def test_behind_steps_that_were_done(self):
        for last, word in (("stop", "stop"), ("get 0 1 0", "out"), ("set 0 1 0", "out"), ("set 0 2 0", "ward")):
            floor = floor_of(16, "addk 0 5", "send 0", last)
            guest = Guest(16, floor, [1, 256, 40, 0, 0, 0, 0, 0], None, [2])
            self.assertEqual((step(guest), step(guest)), ("on", "on"))
            self.assertEqual((guest.record, guest.sent, guest.done), (("sum", 1, 5, 0), [6], 2))
            self.check(guest, word)
            self.check(guest, word)


# Sends 5, 4, 3, 2, 1, then stops: sixteen steps are done.
COUNTDOWN = ("put 0 5", "send 0", "fewer 0", "jumpif 1 -4", "stop")


class Runs(Stepper):
    def test_bells_below_at_and_above_the_count(self):
        for width in WIDTHS:
            floor = floor_of(width, *COUNTDOWN)
            for bell in range(-3, 30):
                guest = Guest(width, floor)
                # The stop is looked at only where the count is below the bell.
                self.assertEqual(run_plain(guest, bell), "bell" if bell <= 16 else "stop")
                self.assertEqual(guest.done, max(0, min(bell, 16)))
            self.assertEqual((guest.sent, guest.boxes[0]), ([5, 4, 3, 2, 1], 0))

    def test_a_bell_at_or_below_the_count_changes_nothing(self):
        for bell in (-1, 0, 3, 6, 7):
            guest = Guest(8, floor_of(8, *COUNTDOWN))
            self.assertEqual(run_plain(guest, 7), "bell")
            stand, record = guest.stand(), guest.record
            self.assertEqual(run_plain(guest, bell), "bell")
            self.assertEqual((guest.stand(), guest.record), (stand, record))

    def test_bells_one_behind_the_other(self):
        once = Guest(8, floor_of(8, *COUNTDOWN))
        run_plain(once, 12)
        often = Guest(8, floor_of(8, *COUNTDOWN))
        for bell in (1, 1, 4, 2, 11, 12):
            self.assertEqual(run_plain(often, bell), "bell")
        self.assertEqual((often.stand(), often.record), (once.stand(), once.record))

    def test_each_word_ends_a_run(self):
        for last, word in (
            ("stop", "stop"), ("get 0 1 0", "out"), ("set 0 1 0", "out"), ("set 0 2 0", "ward"),
        ):
            guest = Guest(16, floor_of(16, "more 0", last), [1, 256, 40, 0, 0, 0, 0, 0], None, [2])
            self.assertEqual([run_plain(guest, bell) for bell in (1, 2, 100)], ["bell", word, word])
            self.assertEqual((guest.done, guest.place, guest.boxes[0]), (1, 1, 2))
        guest = Guest(8, floor_of(8, "more 0"))
        self.assertEqual([run_plain(guest, bell) for bell in (1, 2)], ["bell", "none"])

    def test_a_run_without_an_end_goes_to_its_bell(self):
        guest = Guest(8, floor_of(8, "jump -2"))
        self.assertEqual(run_plain(guest, 2000), "bell")
        self.assertEqual((guest.done, guest.place), (2000, 0))

    def test_a_run_round_the_floors_end(self):
        guest = Guest(8, [104] * 256)
        self.assertEqual(run_plain(guest, 300), "bell")
        self.assertEqual((guest.place, guest.boxes[0]), (44, 44))

    def test_a_guest_that_writes_over_its_own_steps(self):
        # The step behind the set is made a send 0, then the one at the begin a stop.
        floor = floor_of(8, "put 1 160", "put 2 0", "set 1 2 7", "more 0", "set 0 2 0", "jump -13")
        guest = Guest(8, floor)
        self.assertEqual(run_plain(guest, 100), "stop")
        self.assertEqual((guest.sent, guest.boxes[0], guest.place, guest.done), ([0], 0, 0, 6))
        self.assertEqual(guest.floor[0:8], [0, 160, 10, 0, 153, 2, 7, 160])

    def test_a_guest_that_writes_over_the_step_it_does(self):
        floor = floor_of(8, "put 1 255", "set 1 0 2", "jump -5")
        guest = Guest(8, floor)
        self.assertEqual(run_plain(guest, 100), "none")
        self.assertEqual((guest.place, guest.done, guest.floor[2]), (2, 3, 255))

    def test_steps_one_by_one_lead_to_the_stand_of_the_run(self):
        chance = random.Random(35)
        for turn in range(300):
            width = WIDTHS[turn % 3]
            floor = [chance.choice((chance.randrange(256), chance.randrange(8), chance.randrange(8, 200)))
                     for address in range(256)]
            boxes = [chance.choice(patterns(width) + [20, 100, 200]) for box in range(8)]
            marks = chance.choice(ALL_MARKS)
            run, single = (Guest(width, floor, boxes, marks, [turn % 16], turn % 256) for each in "ab")
            bell = chance.randrange(60)
            word = "on"
            while word == "on" and single.done < bell:
                word = step(single)
            self.assertEqual(run_plain(run, bell), "bell" if word == "on" else word)
            self.assertEqual((run.stand(), run.record), (single.stand(), single.record))


if __name__ == "__main__":
    unittest.main()
