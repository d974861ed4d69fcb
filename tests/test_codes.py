"""Stage 2, [2.2], [2.4], [2.5], and [0.2], [0.3]: steps found from texts and from bytes; listings."""

import itertools
import unittest

from hostturn.codes import listing, step_at, step_of
from hostturn.errors import HostError, NoStep
from hostturn.steps import (
    Add, Get, Jump, JumpIf, Mark, More, Put, Send, Step, Stop,
)
from samples import FORMS, GREATEST, WIDTHS, floor_of, floor_with, is_whole, samples, wanted_code

# The bounds of each letter of a form, but for K.
BOUNDS = {"r": (0, 7), "s": (0, 7), "d": (-128, 127)}


def bounds(sort, width):
    return (0, GREATEST[width]) if sort == "K" else BOUNDS[sort]


def text_of(word, numbers):
    return " ".join([word] + ["%s" % (number,) for number in numbers])


class Read(unittest.TestCase):
    def check(self, width, text, kind, numbers):
        step = step_of(width, text)
        self.assertIs(step.__class__, kind, text)
        self.assertIsInstance(step, Step)
        self.assertEqual(step.numbers, numbers)
        self.assertTrue(all(is_whole(number) for number in step.numbers))
        self.assertEqual(step.text(), text)

    def test_the_documents_examples(self):
        self.check(16, "put 3 300", Put, [3, 300])
        self.check(16, "get 3 5 -2", Get, [3, 5, -2])
        self.check(16, "jumpif 4 -7", JumpIf, [4, -7])
        self.check(16, "stop", Stop, [])

    def test_each_kind_with_the_least_and_greatest_of_each_number(self):
        for width, (kind, word, form) in itertools.product(WIDTHS, FORMS):
            for numbers in itertools.product(*(bounds(sort, width) for sort in form)):
                self.check(width, text_of(word, numbers), kind, list(numbers))

    def test_written_out(self):
        for width, text, kind, numbers in (
            (8, "put 0 0", Put, [0, 0]), (8, "put 7 255", Put, [7, 255]),
            (16, "put 7 256", Put, [7, 256]), (16, "put 0 65535", Put, [0, 65535]),
            (32, "put 0 65536", Put, [0, 65536]), (32, "put 7 4294967295", Put, [7, 4294967295]),
            (8, "jump -128", Jump, [-128]), (8, "jump 127", Jump, [127]), (8, "jump 0", Jump, [0]),
            (8, "jump -1", Jump, [-1]), (32, "mark 7 7", Mark, [7, 7]), (32, "more 0", More, [0]),
            (8, "jump -10", Jump, [-10]), (16, "put 1 100", Put, [1, 100]),
        ):
            self.check(width, text, kind, numbers)

    def test_every_sample_at_each_width(self):
        for width in WIDTHS:
            for number, kind, word, form, numbers in samples(width):
                self.check(width, text_of(word, numbers), kind, numbers)

    def test_a_step_told_is_new_each_time(self):
        first = step_of(8, "add 1 2")
        first.numbers[0] = 5
        first.numbers.append(9)
        second = step_of(8, "add 1 2")
        self.assertIsNot(first, second)
        self.assertEqual(second.numbers, [1, 2])


class Refused(unittest.TestCase):
    def check(self, width, row):
        with self.assertRaises(HostError, msg=repr(row)[:60]) as caught:
            step_of(width, row)
        self.assertIs(caught.exception.__class__, NoStep)
        self.assertIs(caught.exception.row, row)

    def each(self, *rows):
        for width, row in itertools.product(WIDTHS, rows):
            self.check(width, row)

    def test_each_number_beyond_its_bound_or_below_it(self):
        for width, (kind, word, form) in itertools.product(WIDTHS, FORMS):
            for place, sort in enumerate(form):
                least, greatest = bounds(sort, width)
                beyond = (least - 1, greatest + 1, least - 100, greatest + 100, 10 ** 12, -10 ** 12)
                for number in beyond:
                    numbers = [0] * len(form)
                    numbers[place] = number
                    self.check(width, text_of(word, numbers))

    def test_k_that_does_not_fit_the_width(self):
        for width, row in (
            (8, "put 0 256"), (8, "put 0 300"), (8, "put 0 65535"), (16, "put 0 65536"),
            (16, "put 0 4294967295"), (32, "put 0 4294967296"), (32, "put 0 9999999999"),
            (32, "put 0 10000000000"), (8, "put 0 -1"), (16, "put 0 -1"), (32, "put 0 -1"),
        ):
            self.check(width, row)

    def test_each_number_written_otherwise(self):
        wrong = (
            "00", "01", "007", "-0", "-00", "-01", "+0", "+1", "--1", "-", "+", "", "1-", "-+1", "+-1",
            "1.0", "1.", ".5", "1e1", "1_0", "0x1", "0b1", "0o1", "x", "r1", "one", "1,", "(1)", "1;",
            "'1'", "None", "True", "\t1", "1\t", "1\n", "\n1", "1\r", "/", ":", "- 1",
        )
        for width, (kind, word, form) in itertools.product(WIDTHS, FORMS):
            for place, number in itertools.product(range(len(form)), wrong):
                numbers = [1] * len(form)
                numbers[place] = number
                self.check(width, text_of(word, numbers))

    def test_a_number_more_or_fewer(self):
        for width, (kind, word, form) in itertools.product(WIDTHS, FORMS):
            for many in range(6):
                if many != len(form):
                    self.check(width, text_of(word, [1] * many))

    def test_a_blank_or_a_line_end_more(self):
        for width, (kind, word, form) in itertools.product(WIDTHS, FORMS):
            text = text_of(word, [1] * len(form))
            step_of(width, text)
            for extra in (" ", "  ", "\n", "\n\n", "\t", "\r", ";"):
                self.check(width, extra + text)
                self.check(width, text + extra)
                if form:
                    self.check(width, text.replace(" ", " " + extra, 1))
                    self.check(width, text.replace(" ", extra + " ", 1))
                    self.check(width, " ".join(text.rsplit(" ", 1)[:1] + [extra + "1"]))
            for between in ("\n", "\t", "", "-", ",", "_"):
                if form:
                    self.check(width, text.replace(" ", between))
                    self.check(width, text.replace(" ", between, 1))

    def test_another_word(self):
        self.each(
            "", " ", "\n", "-", "0", "8 1", "nop", "leave 1 2", "keep 1 2", "part 1", "halt",
            "stops", "sto", "putt 1 1", "pu 1 1", "jumpi 1 1", "jumpiff 1 1", "bits 1", "sum 1 2",
            "stop stop", "stop; stop", "more 1; more 2", "more 1\nmore 2", "1 more", "more1", "s top",
        )

    def test_great_letters(self):
        for width, (kind, word, form) in itertools.product(WIDTHS, FORMS):
            for other in (word.upper(), word.capitalize(), word[:-1] + word[-1].upper()):
                self.check(width, text_of(other, [1] * len(form)))

    def test_a_very_long_row_of_figures(self):
        for many in (11, 12, 100, 4300, 4301, 5000, 20000):
            for figure in ("9", "1", "0"):
                self.each(
                    "put 0 " + figure * many, "put " + figure * many + " 0", "jump " + figure * many,
                    "jump -" + figure * many, "more " + figure * many, figure * many,
                    "get 0 0 -" + figure * many,
                )

    def test_a_very_long_row_of_other_signs(self):
        self.each(" " * 10000, "stop" * 5000, "add" + " 1" * 5000, "-" * 9999, "jump " + "-" * 9999)

    def test_what_is_no_text(self):
        self.each(
            None, 0, 1, -1, 8, True, False, 1.5, b"stop", [], ["stop"], ["more", 1], (), ("stop",), {},
            {"stop": 1}, {"stop"}, object(), Stop([]), str, 10 ** 30,
        )

    def test_a_list_handed_in_stays(self):
        row = ["put", 3, 300]
        self.check(16, row)
        self.assertEqual(row, ["put", 3, 300])


class At(unittest.TestCase):
    def check(self, width, floor, place, kind, numbers):
        kept = list(floor)
        step = step_at(width, floor, place)
        self.assertEqual(floor, kept)
        self.assertIs(step.__class__, kind, (width, place, numbers))
        self.assertEqual(step.numbers, numbers)
        self.assertTrue(all(is_whole(number) for number in step.numbers))

    def check_none(self, width, floor, place):
        kept = list(floor)
        self.assertIsNone(step_at(width, floor, place), (width, place))
        self.assertEqual(floor, kept)

    def test_the_documents_examples(self):
        self.check(16, floor_with([11, 44, 1], 9), 9, Put, [3, 300])
        self.check(16, floor_with([147, 5, 254], 9), 9, Get, [3, 5, -2])
        self.check(8, floor_with([25, 2, 176]), 0, Add, [1, 2])

    def test_each_kind_at_places_up_to_the_last_one_at_which_it_fits(self):
        for width in WIDTHS:
            for number, kind, word, form, numbers in samples(width):
                code = wanted_code(width, number, form, numbers)
                for place, rest in ((0, 255), (100, 0), (256 - len(code), 255)):
                    self.check(width, floor_with(code, place, rest), place, kind, numbers)

    def test_each_kind_cut_by_the_floors_end(self):
        for width in WIDTHS:
            for number, kind, word, form, numbers in samples(width):
                code = wanted_code(width, number, form, numbers)
                for place in range(257 - len(code), 256):
                    # The rest of the code stands at the floor's begin, where it doesn't count.
                    floor = floor_with(code, place, 0)
                    floor[:len(code) - (256 - place)] = code[256 - place:]
                    self.check_none(width, floor, place)

    def test_every_place_of_a_floor_of_one_kind(self):
        for width in WIDTHS:
            floor = [11] * 256
            size = 1 + width // 8
            for place in range(257 - size):
                wanted = int.from_bytes([11] * (width // 8), "little")
                self.check(width, floor, place, Put, [3, wanted])
            for place in range(257 - size, 256):
                self.check_none(width, floor, place)

    def test_a_first_byte_of_200_and_more(self):
        for width, first, place in itertools.product(WIDTHS, range(200, 256), (0, 77, 255)):
            self.check_none(width, floor_with([first, 0, 0, 0, 0], place, 0), place)

    def test_199_is_the_last_first_byte(self):
        for width in WIDTHS:
            self.check(width, floor_with([199, 7], 3), 3, Mark, [7, 7])

    def test_a_box_or_ask_above_7(self):
        for width, (number, (kind, word, form)) in itertools.product(WIDTHS, enumerate(FORMS)):
            if "s" not in form:
                continue
            for byte in range(256):
                floor = floor_with([8 * number + 3, byte, 0], 20)
                if byte <= 7:
                    self.check(width, floor, 20, kind, [3, byte] + [0] * (len(form) - 2))
                else:
                    self.check_none(width, floor, 20)

    def test_a_low_part_of_stop_and_jump(self):
        for width, low in itertools.product(WIDTHS, range(1, 8)):
            self.check_none(width, floor_with([low, 0], 5, 0), 5)
            self.check_none(width, floor_with([168 + low, 0], 5, 0), 5)
            self.check(width, floor_with([0], 5), 5, Stop, [])
            self.check(width, floor_with([168, low], 5), 5, Jump, [low])

    def test_put_at_each_width(self):
        floor = floor_with([15, 1, 2, 3, 4], 0)
        self.check(8, floor, 0, Put, [7, 1])
        self.check(16, floor, 0, Put, [7, 513])
        self.check(32, floor, 0, Put, [7, 67305985])
        self.check(32, floor_with([8, 255, 255, 255, 255], 251), 251, Put, [0, 4294967295])
        self.check(32, floor_with([8, 0, 0, 0, 128], 251), 251, Put, [0, 2147483648])

    def test_small_numbers_below_0(self):
        for width in WIDTHS:
            for byte, wanted in ((0, 0), (1, 1), (127, 127), (128, -128), (129, -127), (255, -1)):
                self.check(width, floor_with([168, byte]), 0, Jump, [wanted])
                self.check(width, floor_with([183, byte]), 0, JumpIf, [7, wanted])
                self.check(width, floor_with([144, 1, byte]), 0, Get, [0, 1, wanted])

    def test_a_place_or_a_byte_somewhat_beyond_its_bounds_has_no_step(self):
        for width in WIDTHS:
            for place in (256, 257, 300, -1, -2, -256):
                self.check_none(width, [0] * 256, place)
            for code in ([256], [-1, 0], [168, 256], [168, -1], [17, 256], [8, 256, 0, 0, 0]):
                self.check_none(width, floor_with(code, 0, 0), 0)

    def test_a_floor_somewhat_longer_or_shorter(self):
        for width in WIDTHS:
            longer = floor_with([25, 2], 254, 0) + [0, 0]
            self.check(width, longer, 254, Add, [1, 2])
            self.check_none(width, longer, 256)
            self.check_none(width, [25] * 255 + [25, 2], 255)
            self.check_none(width, [25] * 255, 254)
            self.check_none(width, [0] * 255, 255)

    def test_a_step_told_is_new_each_time(self):
        floor = floor_with([25, 2])
        first = step_at(8, floor, 0)
        first.numbers[1] = 6
        self.check(8, floor, 0, Add, [1, 2])
        self.assertIsNot(step_at(8, floor, 0), step_at(8, floor, 0))

    def test_a_floor_changed_behind_changes_no_step(self):
        floor = floor_with([147, 5, 254])
        step = step_at(16, floor, 0)
        floor[:] = [0] * 256
        self.assertEqual((step.text(), step.code(16)), ("get 3 5 -2", [147, 5, 254]))


class OneOrNone(unittest.TestCase):
    """[0.3]: each step has one row of bytes, and any bytes begin with one step or none."""

    def all_codes(self, width):
        """The text of every step, by its code; of put some numbers alone."""
        small = range(-128, 128)
        parts = {"r": range(8), "s": range(8), "d": small, "K": (0, 1, 2 ** (width - 1), 2 ** width - 1)}
        told = {}
        for number, (kind, word, form) in enumerate(FORMS):
            for numbers in itertools.product(*(parts[sort] for sort in form)):
                code = tuple(wanted_code(width, number, form, numbers))
                self.assertNotIn(code, told)
                told[code] = text_of(word, numbers)
        return told

    def test_no_code_begins_with_another_one(self):
        for width in WIDTHS:
            told = self.all_codes(width)
            for code in told:
                for size in range(1, len(code)):
                    self.assertNotIn(code[:size], told)

    def test_any_two_bytes_begin_with_the_one_step_that_has_them_or_none(self):
        told = self.all_codes(8)
        for number in range(256):
            for box in range(8):
                told[8 + box, number] = text_of("put", (box, number))
        for first, second in itertools.product(range(256), range(256)):
            third = (first * 7 + second * 13) % 256
            row = (first, second, third)
            wanted = [told[row[:size]] for size in (1, 2, 3) if row[:size] in told]
            step = step_at(8, floor_with(row, 40), 40)
            self.assertEqual([] if step is None else [step.text()], wanted)

    def test_text_and_code_lead_to_the_same_step(self):
        for width in WIDTHS:
            for code, text in self.all_codes(width).items():
                if code[-1] % 16 in (0, 15):
                    step = step_of(width, text)
                    self.assertEqual(tuple(step.code(width)), code)
                    self.assertEqual(step_at(width, floor_with(code, 50), 50).text(), text)


class Listing(unittest.TestCase):
    def check(self, width, floor, place, most, wanted):
        kept = list(floor)
        told = listing(width, floor, place, most)
        self.assertEqual(floor, kept)
        self.assertIsInstance(told, list)
        self.assertEqual(told, wanted)
        for row in told:
            self.assertIsInstance(row, tuple)
            self.assertTrue(is_whole(row[0]) and isinstance(row[1], str))

    def test_ended_by_the_count(self):
        floor = floor_of(16, "put 3 300", "more 3", "get 3 5 -2", "jump -7", "stop", "stop")
        wanted = [(0, "put 3 300"), (3, "more 3"), (4, "get 3 5 -2"), (7, "jump -7"), (9, "stop"),
                  (10, "stop")]
        for most in range(7):
            self.check(16, floor, 0, most, wanted[:most])
        self.check(16, floor, 3, 2, wanted[1:3])
        self.check(16, floor, 10, 1, [(10, "stop")])

    def test_it_goes_on_behind_jumps_goes_and_stops(self):
        floor = floor_of(8, "stop", "jump 0", "jumpif 1 2", "go 3", "stop")
        self.check(8, floor, 0, 256, [
            (0, "stop"), (1, "jump 0"), (3, "jumpif 1 2"), (5, "go 3"), (6, "stop")])

    def test_ended_by_a_place_without_a_step(self):
        floor = floor_of(8, "more 1", "add 1 2")
        self.check(8, floor, 0, 256, [(0, "more 1"), (1, "add 1 2")])
        self.check(8, floor, 1, 256, [(1, "add 1 2")])
        self.check(8, floor, 3, 256, [])
        self.check(8, floor, 255, 256, [])
        floor[3:6] = [26, 8, 0]
        self.check(8, floor, 0, 256, [(0, "more 1"), (1, "add 1 2")])

    def test_ended_by_the_floors_end(self):
        for width in WIDTHS:
            size = 1 + width // 8
            floor = floor_with([15] + [0] * (size - 1), 256 - size, 0)
            self.check(width, floor, 256 - size, 256, [(256 - size, "put 7 0")])
            self.check(width, floor, 250 - size, 256, [
                (place, "stop") for place in range(250 - size, 256 - size)] + [(256 - size, "put 7 0")])
            cut = floor_with([15], 257 - size, 0)
            self.check(width, cut, 255 - size, 256, [(255 - size, "stop"), (256 - size, "stop")])
            self.check(width, cut, 257 - size, 256, [])

    def test_256_stops(self):
        for width in WIDTHS:
            wanted = [(place, "stop") for place in range(256)]
            self.check(width, [0] * 256, 0, 256, wanted)
            self.check(width, [0] * 256, 0, 255, wanted[:255])
            self.check(width, [0] * 256, 0, 1, wanted[:1])
            self.check(width, [0] * 256, 0, 0, [])
            self.check(width, [0] * 256, 1, 256, wanted[1:])
            self.check(width, [0] * 256, 255, 256, wanted[255:])
            self.check(width, [0] * 256, 255, 1, wanted[255:])
            self.check(width, [0] * 256, 255, 0, [])

    def test_a_count_or_place_somewhat_beyond_its_bounds(self):
        self.check(8, [0] * 256, 254, 300, [(254, "stop"), (255, "stop")])
        self.check(8, [0] * 256, 254, -1, [])
        self.check(8, [0] * 256, 256, 5, [])

    def test_every_step_of_a_listing_stands_there(self):
        for width in WIDTHS:
            floor = [(place * 37 + place * place * 11) % 200 for place in range(256)]
            for place in range(256):
                follow = place
                told = listing(width, floor, place, 256)
                for at, text in told:
                    self.assertEqual(at, follow)
                    self.assertEqual(step_at(width, floor, at).text(), text)
                    follow += step_of(width, text).size(width)
                self.assertIsNone(step_at(width, floor, follow))

    def test_told_new_each_time(self):
        floor = floor_of(8, "send 1", "stop")
        first = listing(8, floor, 0, 5)
        first.clear()
        self.check(8, floor, 0, 5, [(0, "send 1"), (1, "stop")])
        second = listing(8, floor, 0, 5)
        floor[:] = [255] * 256
        self.assertEqual(second, [(0, Send([1]).text()), (1, "stop")])


if __name__ == "__main__":
    unittest.main()
