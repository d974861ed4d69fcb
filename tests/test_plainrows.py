"""Stage 6, [6.1] to [6.3], and [0.2]: the code at a place, which codes are right, their plain rows."""

import itertools
import random
import unittest

from hostturn.codes import listing, step_at
from hostturn.errors import HostError, NoCode
from hostturn.house import check_rows, run_rows
from hostturn.plain import run_plain
from hostturn.plainrows import code_at, plain_rows
from samples import (
    FORMS, LAST_WORDS, LEAPS, WIDTHS, choices, code_of, drawn_guest, drawn_texts, floor_of, floor_with,
    is_whole, samples,
)

Z = 15


def rows_of(width, text, n, p):
    """The rows of one step, written down from the document once more."""
    word, *parts = text.split(" ")
    numbers = [int(part) for part in parts]
    r, s = (numbers + [0, 0])[:2]
    k = numbers[-1] % 2 ** width if numbers else 0
    q = (p + len(code_of(width, text))) % 256
    d = (q + numbers[-1]) % 256 if numbers else 0
    return {
        "put": [("put", r, s)],
        "copy": [("copy", r, s)],
        "not": [("not", r, r)],
        "add": [("keep", "sum", r, s, Z), ("add", r, r, s)],
        "sub": [("keep", "less", r, s, Z), ("sub", r, r, s)],
        "cmp": [("keep", "less", r, s, Z)],
        "and": [("and", r, r, s), ("keep", "logic", r, Z, Z)],
        "or": [("or", r, r, s), ("keep", "logic", r, Z, Z)],
        "xor": [("xor", r, r, s), ("keep", "logic", r, Z, Z)],
        "addc": [("mark", 8, 4), ("keep", "sum", r, s, 8), ("add", 9, r, s), ("add", r, 9, 8)],
        "subc": [("mark", 8, 4), ("keep", "less", r, s, 8), ("sub", 9, r, s), ("sub", r, 9, 8)],
        "addk": [("put", 9, k), ("keep", "sum", r, 9, Z), ("add", r, r, 9)],
        "cmpk": [("put", 9, k), ("keep", "less", r, 9, Z)],
        "more": [("mark", 8, 4), ("keep", "more", r, Z, 8), ("put", 9, 1), ("add", r, r, 9)],
        "fewer": [("mark", 8, 4), ("keep", "fewer", r, Z, 8), ("put", 9, 1), ("sub", r, r, 9)],
        "left": [("keep", "left", r, Z, Z), ("left", r, r)],
        "right": [("keep", "right", r, Z, Z), ("right", r, r)],
        "get": [("get", r, s, k, n, p)],
        "set": [("set", s, k, r, n, p, q)],
        "send": [("send", r)],
        "mark": [("mark", r, s)],
        "jump": [("leave", n + 1, d)],
        "jumpif": [("mark", 8, r), ("part", 8, n + 1, d, q)],
        "go": [("go", r, n + 1)],
        "stop": [("stop", n, p)],
    }[word]


def wanted_rows(width, place, texts):
    rows, p = [], place
    for n, text in enumerate(texts):
        rows += rows_of(width, text, n, p)
        p += len(code_of(width, text))
    if texts[-1].split(" ")[0] not in LAST_WORDS:
        rows.append(("leave", len(texts), p % 256))
    return rows


class CodeAt(unittest.TestCase):
    def check(self, width, floor, place, most, wanted):
        kept = list(floor)
        told = code_at(width, floor, place, most)
        self.assertEqual(floor, kept)
        self.assertIsInstance(told, list)
        self.assertEqual(told, wanted)
        self.assertTrue(all(is_whole(byte) for byte in told))

    def test_ended_by_the_most(self):
        for width in WIDTHS:
            texts = ["put 3 200", "more 3", "get 3 5 -2", "add 1 2", "send 7", "set 1 2 3", "cmpk 1 -1",
                     "not 4", "mark 1 6", "addc 1 1", "left 2", "xor 1 3", "copy 1 2", "fewer 1"]
            for most in range(1, 13):
                self.check(width, floor_of(width, *texts), 0, most, code_of(width, *texts[:most]))

    def test_ended_by_a_step_that_goes_elsewhere(self):
        for width, last in itertools.product(WIDTHS, ("jump 0", "jump -128", "jumpif 3 5", "go 2", "stop")):
            texts = ["put 3 200", "send 7", last, "more 1", "stop"]
            for most in range(1, 13):
                self.check(width, floor_of(width, *texts), 0, most, code_of(width, *texts[:min(most, 3)]))
            self.check(width, floor_of(width, last, "more 1"), 0, 12, code_of(width, last))
            self.check(width, floor_of(width, last, last), 0, 12, code_of(width, last))

    def test_the_most_and_the_last_one_together(self):
        floor = floor_of(8, "more 1", "more 2", "jump 5", "more 3")
        self.check(8, floor, 0, 2, code_of(8, "more 1", "more 2"))
        self.check(8, floor, 0, 3, code_of(8, "more 1", "more 2", "jump 5"))
        self.check(8, floor, 0, 4, code_of(8, "more 1", "more 2", "jump 5"))

    def test_ended_by_a_place_without_a_step(self):
        for width in WIDTHS:
            code = code_of(width, "more 1", "put 1 77", "add 1 2")
            for rest in (255, 200, 1, 169):
                self.check(width, floor_with(code, 30, rest), 30, 12, code)
            # A box above 7 makes no step either.
            self.check(width, floor_with(code + [25, 8], 30), 30, 12, code)

    def test_none(self):
        for width in WIDTHS:
            for place in (0, 100, 255):
                for first in (200, 255, 1, 7, 169, 175):
                    self.check(width, floor_with([first], place, 0), place, 12, [])
            self.check(width, floor_with([25], 255, 0), 255, 12, [])
            self.check(width, floor_with([147, 5], 254, 0), 254, 12, [])

    def test_ended_by_the_floors_end(self):
        for width in WIDTHS:
            for number, kind, word, form, numbers in samples(width):
                if word in LAST_WORDS or numbers != [numbers[0]] * len(numbers):
                    continue
                code = code_of(width, " ".join([word, *map(str, numbers)]))
                for ahead in range(4):
                    whole = code_of(width, *["more 5"] * ahead) + code
                    self.check(width, floor_with(whole, 256 - len(whole), 0), 256 - len(whole), 12, whole)
                    if len(code) > 1:
                        cut = floor_with(whole, 257 - len(whole), 0)
                        self.check(width, cut, 257 - len(whole), 12, whole[:ahead])

    def test_every_place_of_drawn_floors(self):
        for width, seed in itertools.product(WIDTHS, range(4)):
            draw = random.Random(seed)
            floor = [draw.choice((draw.randrange(256), draw.randrange(200), draw.randrange(8)))
                     for place in range(256)]
            for place, most in itertools.product(range(256), range(1, 13)):
                wanted, follow = [], place
                for at, text in listing(width, floor, place, most):
                    self.assertEqual(at, follow)
                    wanted += code_of(width, text)
                    follow = place + len(wanted)
                    if text.split(" ")[0] in LAST_WORDS:
                        break
                self.check(width, floor, place, most, wanted)
                self.assertEqual(floor[place:place + len(wanted)], wanted)

    def test_told_new_each_time(self):
        floor = floor_of(8, "more 1", "stop")
        first = code_at(8, floor, 0, 12)
        first.append(9)
        self.check(8, floor, 0, 12, code_of(8, "more 1", "stop"))
        second = code_at(8, floor, 0, 12)
        floor[:] = [255] * 256
        self.assertEqual(second, code_of(8, "more 1", "stop"))

    def test_a_most_somewhat_beyond_its_bounds(self):
        floor = floor_of(8, *["more 1"] * 20, "stop")
        self.check(8, floor, 0, 0, [])
        self.check(8, floor, 0, -1, [])
        self.check(8, floor, 0, 13, code_of(8, *["more 1"] * 13))
        self.check(8, floor, 0, 50, code_of(8, *["more 1"] * 20, "stop"))


class RowsTest(unittest.TestCase):
    def check(self, width, place, texts):
        """The plain rows of these steps are those of the document; the code stays."""
        code = code_of(width, *texts)
        kept = list(code)
        rows = plain_rows(width, place, code)
        self.assertEqual(code, kept)
        self.assertIsInstance(rows, list)
        self.assertEqual(rows, wanted_rows(width, place, texts), texts)
        for row in rows:
            self.assertIsInstance(row, tuple)
            for part in row[1:]:
                self.assertTrue(is_whole(part) or isinstance(part, str))
        return rows

    def refused(self, width, place, code):
        kept = list(code) if isinstance(code, list) else code
        with self.assertRaises(HostError, msg=repr((width, place, code))) as caught:
            plain_rows(width, place, code)
        self.assertIs(caught.exception.__class__, NoCode)
        self.assertEqual(code, kept)


class Right(RowsTest):
    def test_up_to_byte_255(self):
        for width in WIDTHS:
            for texts in (["stop"], ["put 1 255"], ["more 1"], ["more 1", "get 1 2 3"], ["send 1", "jump 3"]):
                code = code_of(width, *texts)
                for place in (0, 1, 100, 255 - len(code), 256 - len(code)):
                    self.check(width, place, texts)
                for place in (257 - len(code), 255 + 1, 300):
                    self.refused(width, place, code)

    def test_a_code_that_fills_the_floor(self):
        code = code_of(8, *["more 1"] * 255, "stop")
        self.assertEqual(plain_rows(8, 0, code)[-1], ("stop", 255, 255))
        for place in (1, 2):
            self.refused(8, place, code)
        self.refused(8, 0, code_of(8, *["more 1"] * 256, "stop"))

    def test_a_code_at_a_place_off_the_floor(self):
        for place in (-1, -2, -256, 256, 257):
            self.refused(8, place, [0])

    def test_no_byte(self):
        for width, place in itertools.product(WIDTHS, (0, 5, 255, 256)):
            self.refused(width, place, [])

    def test_no_list(self):
        for code in (None, 0, 1, True, "", "stop", (), (0,), (104, 0), {}, {0: 0}, {0}, b"\0", b"", iter([0]), 1.5,
                     object()):
            self.refused(8, 0, code)

    def test_bytes_beyond_their_bounds_and_of_other_kinds(self):
        for width in WIDTHS:
            for byte in (256, -1, 1000, -256, 10 ** 20, None, True, False, "0", "", 0.0, [0], (0,), b"\0", object()):
                self.refused(width, 0, [byte])
                self.refused(width, 0, [104, byte])
                self.refused(width, 0, [byte, 0])
                self.refused(width, 0, [168, byte])
                self.refused(width, 0, [25, byte, 0])
                self.refused(width, 0, [144, 1, byte])
                self.refused(width, 0, [8] + [0] * (width // 8 - 1) + [byte])

    def test_bytes_that_are_no_step(self):
        for width in WIDTHS:
            for byte in (*range(200, 256), *range(1, 8), *range(169, 176)):
                self.refused(width, 0, [byte])
                self.refused(width, 0, [byte, 0])
                self.refused(width, 0, [104, byte])
                self.refused(width, 0, [104, byte, 0, 0])
            for number, (kind, word, form) in enumerate(FORMS):
                if "s" in form:
                    for byte in (8, 9, 128, 255):
                        self.refused(width, 0, [8 * number, byte] + [0] * (len(form) - 2))

    def test_a_step_cut_off(self):
        for width, (number, (kind, word, form)) in itertools.product(WIDTHS, enumerate(FORMS)):
            code = code_of(width, " ".join([word, *["1"] * len(form)]))
            for size in range(1, len(code)):
                self.refused(width, 0, code[:size])
                self.refused(width, 0, [104] + code[:size])
                self.refused(width, 256 - size, code[:size])

    def test_a_byte_too_many(self):
        for width, (number, (kind, word, form)) in itertools.product(WIDTHS, enumerate(FORMS)):
            code = code_of(width, " ".join([word, *["1"] * len(form)]))
            for byte in (255, 200, 1, 25, 8):
                self.refused(width, 0, code + [byte])

    def test_a_step_that_goes_elsewhere_ahead_of_the_last_one(self):
        for width, text in itertools.product(WIDTHS, ("jump 0", "jump 5", "jumpif 1 0", "go 1", "stop")):
            code = code_of(width, text)
            for behind in ("stop", "more 1", "jump 0", "put 1 1", text):
                self.refused(width, 0, code + code_of(width, behind))
                self.refused(width, 9, code_of(width, "more 1", text, behind))
                self.refused(width, 9, code_of(width, text, behind, "stop"))
            self.check(width, 9, ["more 1", text])

    def test_a_code_of_another_width(self):
        self.refused(8, 0, code_of(16, "put 1 300"))
        self.refused(16, 0, code_of(8, "put 1 30"))
        self.refused(32, 0, code_of(16, "put 1 300"))
        self.refused(16, 0, code_of(32, "put 1 4294967295"))


class PlainRows(RowsTest):
    def test_written_out(self):
        self.assertEqual(plain_rows(8, 10, code_of(8, "add 1 2")), [
            ("keep", "sum", 1, 2, 15), ("add", 1, 1, 2), ("leave", 1, 12)])
        self.assertEqual(plain_rows(16, 250, code_of(16, "addk 3 -1", "get 3 5 -2", "stop")), [
            ("put", 9, 65535), ("keep", "sum", 3, 9, 15), ("add", 3, 3, 9), ("get", 3, 5, 65534, 1, 252),
            ("stop", 2, 255)])
        self.assertEqual(plain_rows(32, 0, code_of(32, "subc 6 7", "set 1 2 -128", "jumpif 5 -7")), [
            ("mark", 8, 4), ("keep", "less", 6, 7, 8), ("sub", 9, 6, 7), ("sub", 6, 9, 8),
            ("set", 2, 4294967168, 1, 1, 2, 5), ("mark", 8, 5), ("part", 8, 3, 0, 7)])
        self.assertEqual(plain_rows(8, 0, code_of(8, "fewer 0", "go 4")), [
            ("mark", 8, 4), ("keep", "fewer", 0, 15, 8), ("put", 9, 1), ("sub", 0, 0, 9), ("go", 4, 2)])
        self.assertEqual(plain_rows(8, 0, code_of(8, "cmpk 2 -3", "jump -2")), [
            ("put", 9, 253), ("keep", "less", 2, 9, 15), ("leave", 2, 2)])

    def test_each_kind_alone(self):
        for width in WIDTHS:
            for number, kind, word, form, numbers in samples(width):
                self.check(width, 40, [" ".join([word, *map(str, numbers)])])

    def test_each_kind_first_amid_and_last(self):
        for width, (kind, word, form) in itertools.product(WIDTHS, FORMS):
            for turn in range(4):
                numbers = [choices(sort, width)[turn * 2 % len(choices(sort, width))] for sort in form]
                text = " ".join([word, *map(str, numbers)])
                ahead = ["more 1", "put 2 9", "set 3 4 5"]
                self.check(width, 7, ahead + [text])
                self.check(width, 7, ahead[:1] + [text])
                if word not in LAST_WORDS:
                    for last in ("send 1", "jump -3", "jumpif 6 100", "go 7", "stop", "get 1 2 3"):
                        self.check(width, 7, [text, last])
                        self.check(width, 7, ahead + [text, text, "get 5 6 -1", text, last])

    def test_places_and_goals_round_the_floors_end(self):
        for width in WIDTHS:
            for texts in (
                ["more 1"], ["set 1 2 3"], ["get 1 2 3"], ["put 1 2"], ["more 1", "set 1 2 -3"],
                ["set 1 2 3", "set 1 2 3"], ["set 1 2 3", "stop"], ["stop"], ["send 1", "go 1"],
            ):
                size = len(code_of(width, *texts))
                for place in (0, 254 - size, 255 - size, 256 - size):
                    rows = self.check(width, place, texts)
                    if rows[-1][0] == "leave":
                        self.assertEqual(rows[-1][2], (place + size) % 256)
            for leap, place in itertools.product(LEAPS, (0, 1, 3, 126, 127, 128, 200, 252, 253, 254)):
                rows = self.check(width, place, [f"jump {leap}"])
                self.assertEqual(rows, [("leave", 1, (place + 2 + leap) % 256)])
                rows = self.check(width, place, [f"jumpif 4 {leap}"])
                self.assertEqual(rows[-1], ("part", 8, 1, (place + 2 + leap) % 256, (place + 2) % 256))

    def test_numbers_below_0(self):
        for width, number in itertools.product(WIDTHS, range(-128, 128)):
            whole = number % 2 ** width
            self.assertEqual(self.check(width, 0, [f"addk 1 {number}"])[0], ("put", 9, whole))
            self.assertEqual(self.check(width, 0, [f"cmpk 1 {number}"])[0], ("put", 9, whole))
            self.assertEqual(self.check(width, 0, [f"get 1 2 {number}"])[0][3], whole)
            self.assertEqual(self.check(width, 0, [f"set 1 2 {number}"])[0][2], whole)

    def test_codes_of_twelve_steps(self):
        for width, (kind, word, form) in itertools.product(WIDTHS, FORMS):
            if word not in LAST_WORDS:
                text = " ".join([word, *["2"] * len(form)])
                for last in (text, "stop", "jump 4", "go 2", "jumpif 2 2"):
                    self.check(width, 3, [text] * 11 + [last])

    def test_counts(self):
        for many in range(1, 13):
            self.assertEqual(self.check(8, 0, ["not 1"] * many)[-1], ("leave", many, many))
            self.assertEqual(self.check(8, 0, ["not 1"] * (many - 1) + ["stop"])[-1], ("stop", many - 1, many - 1))
            self.assertEqual(self.check(8, 0, ["not 1"] * (many - 1) + ["go 3"])[-1], ("go", 3, many))
            self.assertEqual(self.check(8, 0, ["not 1"] * (many - 1) + ["jump 0"])[-1], ("leave", many, many + 1))
            self.assertEqual(self.check(8, 0, ["not 1"] * (many - 1) + ["get 1 2 3"])[-2],
                             ("get", 1, 2, 3, many - 1, many - 1))

    def test_drawn_codes(self):
        draw = random.Random(63)
        for turn in range(1500):
            width, many = draw.choice(WIDTHS), draw.randrange(1, 13)
            texts = drawn_texts(draw, width, many)
            room = 256 - len(code_of(width, *texts))
            rows = self.check(width, draw.choice((0, room, draw.randrange(room + 1))), texts)
            self.assertIsNone(check_rows(width, rows))

    def test_the_rows_of_the_code_at_a_place(self):
        for width, seed in itertools.product(WIDTHS, range(3)):
            draw = random.Random(seed)
            floor = [draw.randrange(200) for place in range(256)]
            for place in range(256):
                code = code_at(width, floor, place, 12)
                if step_at(width, floor, place) is None:
                    self.refused(width, place, code)
                else:
                    texts = [text for at, text in listing(width, floor, place, 12) if at < place + len(code)]
                    self.check(width, place, texts)

    def test_they_do_what_the_plain_steps_do(self):
        draw = random.Random(64)
        for turn in range(1500):
            width, many = draw.choice(WIDTHS), draw.randrange(1, 13)
            texts = drawn_texts(draw, width, many)
            code = code_of(width, *texts)
            place = draw.randrange(257 - len(code))
            guest = drawn_guest(draw, width, code, place)
            plain = guest.twin()
            word, n, q = run_rows(guest, plain_rows(width, place, code), range(place, place + len(code)).__contains__)
            self.assertEqual(run_plain(plain, n), "bell")
            self.assertEqual(plain.stand(), guest.stand(), texts)
            self.assertEqual(run_plain(plain, n + 1) if word != "on" else "on", word)

    def test_told_new_each_time(self):
        code = code_of(8, "more 1", "stop")
        first = plain_rows(8, 0, code)
        first.clear()
        second = self.check(8, 0, ["more 1", "stop"])
        code[:] = [255] * 9
        self.assertEqual(second, wanted_rows(8, 0, ["more 1", "stop"]))
        self.assertIsNot(self.check(8, 0, ["stop"]), self.check(8, 0, ["stop"]))


if __name__ == "__main__":
    unittest.main()
