"""Stage 1, [1.1] to [1.5]: numbers, marks, uses, asks, and what the house reckons."""

import itertools
import unittest

from hostturn.words import KINDS, asked, fit, marks_of, reckoned, signed, used
from samples import ALL_MARKS, WIDTHS, Whole, edges, is_whole, patterns

OPERANDS = ("add", "sub", "and", "or", "xor")


class Fit(Whole):
    def test_written_out(self):
        for width, number, wanted in (
            (8, 0, 0), (8, 1, 1), (8, 127, 127), (8, 128, 128), (8, 129, 129),
            (8, 255, 255), (8, 256, 0), (8, 257, 1), (8, 512, 0),
            (8, -1, 255), (8, -127, 129), (8, -128, 128), (8, -129, 127),
            (8, -255, 1), (8, -256, 0), (8, -257, 255), (8, -512, 0),
            (16, 0, 0), (16, 1, 1), (16, 32767, 32767), (16, 32768, 32768), (16, 32769, 32769),
            (16, 65535, 65535), (16, 65536, 0), (16, 65537, 1), (16, 131072, 0),
            (16, -1, 65535), (16, -32767, 32769), (16, -32768, 32768), (16, -32769, 32767),
            (16, -65535, 1), (16, -65536, 0), (16, -65537, 65535), (16, -131072, 0),
            (32, 0, 0), (32, 1, 1), (32, 2147483647, 2147483647), (32, 2147483648, 2147483648),
            (32, 2147483649, 2147483649), (32, 4294967295, 4294967295), (32, 4294967296, 0),
            (32, 4294967297, 1), (32, 8589934592, 0),
            (32, -1, 4294967295), (32, -2147483647, 2147483649), (32, -2147483648, 2147483648),
            (32, -2147483649, 2147483647), (32, -4294967295, 1), (32, -4294967296, 0),
            (32, -4294967297, 4294967295), (32, -8589934592, 0),
            (8, 12345678901234567890, 210), (8, -12345678901234567890, 46),
            (16, 12345678901234567890, 2770), (16, -12345678901234567890, 62766),
            (32, 12345678901234567890, 3944680146), (32, -12345678901234567890, 350287150),
            (8, 99999999999999999999, 255), (8, -99999999999999999999, 1),
            (16, 99999999999999999999, 65535), (16, -99999999999999999999, 1),
            (32, 99999999999999999999, 1661992959), (32, -99999999999999999999, 2632974337),
        ):
            with self.subTest(width=width, number=number):
                self.assertWhole(fit(width, number), wanted)

    def test_within_the_width_and_a_multiple_away(self):
        for width in WIDTHS:
            span = 2 ** width
            for base in (0, span // 2, span, 2 * span, 10 ** 19, 10 ** 20 - 1):
                for number in (base - 1, base, base + 1, -base - 1, -base, -base + 1):
                    with self.subTest(width=width, number=number):
                        told = fit(width, number)
                        self.assertTrue(is_whole(told))
                        self.assertTrue(0 <= told <= span - 1)
                        self.assertEqual((number - told) % span, 0)


class Signed(Whole):
    def test_the_documents_example(self):
        self.assertWhole(signed(8, 127), 127)
        self.assertWhole(signed(8, 128), -128)
        self.assertWhole(signed(8, 255), -1)

    def test_written_out(self):
        for width, number, wanted in (
            (8, 0, 0), (8, 1, 1), (8, 126, 126), (8, 129, -127), (8, 254, -2),
            (16, 0, 0), (16, 1, 1), (16, 127, 127), (16, 128, 128), (16, 255, 255),
            (16, 32767, 32767), (16, 32768, -32768), (16, 32769, -32767), (16, 65535, -1),
            (32, 0, 0), (32, 1, 1), (32, 32768, 32768), (32, 65535, 65535),
            (32, 2147483647, 2147483647), (32, 2147483648, -2147483648),
            (32, 2147483649, -2147483647), (32, 4294967295, -1),
        ):
            with self.subTest(width=width, number=number):
                self.assertWhole(signed(width, number), wanted)

    def test_every_number_of_8_bits(self):
        told = [signed(8, number) for number in range(256)]
        self.assertEqual(told, list(range(128)) + list(range(-128, 0)))

    def test_fitted_again_it_is_the_same(self):
        for width in WIDTHS:
            for number in patterns(width):
                with self.subTest(width=width, number=number):
                    self.assertWhole(fit(width, signed(width, number)), number)


class Kinds(unittest.TestCase):
    def test_the_tuple(self):
        self.assertIsInstance(KINDS, tuple)
        self.assertEqual(
            KINDS, ("bits", "sum", "less", "logic", "left", "right", "more", "fewer"))


def bit_marks(width, kind, a, b, c):
    """The marks once more, reckoned by bits where the program reckons by signed numbers."""
    span = 2 ** width
    high = width - 1
    k = c & 1
    if kind == "bits":
        return tuple(a >> place & 1 for place in range(4))
    if kind in ("sum", "more"):
        b, k, kept = (1, 0, k) if kind == "more" else (b, k, None)
        whole = a + b + k
        r = whole & span - 1
        carry, over = whole >> width & 1, ((a ^ r) & (b ^ r)) >> high & 1
    elif kind in ("less", "fewer"):
        b, k, kept = (1, 0, k) if kind == "fewer" else (b, k, None)
        r = (a - b - k) & span - 1
        carry, over = int(a < b + k), ((a ^ b) & (a ^ r)) >> high & 1
    else:
        kept = None
        r, carry, over = {
            "logic": (a, 0, 0),
            "left": (a << 1 & span - 1, a >> high, 0),
            "right": (a >> 1, a & 1, 0),
        }[kind]
    return (int(not r), r >> high, carry if kept is None else kept, over)


class Marks(Whole):
    def check(self, width, record, wanted):
        with self.subTest(width=width, record=record):
            self.assertMarks(marks_of(width, record), wanted)

    def test_bits(self):
        for width in WIDTHS:
            for n in range(16):
                self.check(width, ("bits", n, 0, 0), (n & 1, n >> 1 & 1, n >> 2 & 1, n >> 3 & 1))
            self.check(width, ("bits", 1, 0, 0), (1, 0, 0, 0))
            self.check(width, ("bits", 2, 0, 0), (0, 1, 0, 0))
            self.check(width, ("bits", 4, 0, 0), (0, 0, 1, 0))
            self.check(width, ("bits", 8, 0, 0), (0, 0, 0, 1))
            self.check(width, ("bits", 2 ** width - 1, 0, 0), (1, 1, 1, 1))
            self.check(width, ("bits", 2 ** (width - 1), 0, 0), (0, 0, 0, 0))

    def test_sum(self):
        self.check(8, ("sum", 200, 100, 0), (0, 0, 1, 0))
        for width in WIDTHS:
            half = 2 ** (width - 1)
            top = 2 ** width - 1
            for a, b, k, wanted in (
                (0, 0, 0, (1, 0, 0, 0)), (0, 0, 1, (0, 0, 0, 0)),
                (half - 1, 0, 0, (0, 0, 0, 0)), (half - 1, 0, 1, (0, 1, 0, 1)),
                (half - 1, 1, 0, (0, 1, 0, 1)), (half - 1, 1, 1, (0, 1, 0, 1)),
                (half - 1, half - 1, 0, (0, 1, 0, 1)), (half - 1, half - 1, 1, (0, 1, 0, 1)),
                (half - 1, half, 0, (0, 1, 0, 0)), (half - 1, half, 1, (1, 0, 1, 0)),
                (half, 0, 0, (0, 1, 0, 0)), (half, 0, 1, (0, 1, 0, 0)),
                (half, half, 0, (1, 0, 1, 1)), (half, half, 1, (0, 0, 1, 1)),
                (half, top, 0, (0, 0, 1, 1)), (half, top, 1, (0, 1, 1, 0)),
                (top, 0, 0, (0, 1, 0, 0)), (top, 0, 1, (1, 0, 1, 0)),
                (top, 1, 0, (1, 0, 1, 0)), (top, 1, 1, (0, 0, 1, 0)),
                (top, top, 0, (0, 1, 1, 0)), (top, top, 1, (0, 1, 1, 0)),
            ):
                self.check(width, ("sum", a, b, k), wanted)
                self.check(width, ("sum", b, a, k), wanted)

    def test_less(self):
        for width in WIDTHS:
            half = 2 ** (width - 1)
            top = 2 ** width - 1
            for a, b, k, wanted in (
                (0, 0, 0, (1, 0, 0, 0)), (0, 0, 1, (0, 1, 1, 0)),
                (0, 1, 0, (0, 1, 1, 0)), (0, 1, 1, (0, 1, 1, 0)),
                (1, 0, 0, (0, 0, 0, 0)), (1, 0, 1, (1, 0, 0, 0)),
                (1, 1, 0, (1, 0, 0, 0)), (1, 1, 1, (0, 1, 1, 0)),
                (0, half, 0, (0, 1, 1, 1)), (0, half, 1, (0, 0, 1, 0)),
                (0, half - 1, 0, (0, 1, 1, 0)), (0, half - 1, 1, (0, 1, 1, 0)),
                (half, 0, 0, (0, 1, 0, 0)), (half, 0, 1, (0, 0, 0, 1)),
                (half, 1, 0, (0, 0, 0, 1)), (half, half - 1, 0, (0, 0, 0, 1)),
                (half, half - 1, 1, (1, 0, 0, 1)), (half, half, 0, (1, 0, 0, 0)),
                (half - 1, half, 0, (0, 1, 1, 1)), (half - 1, half, 1, (0, 1, 1, 1)),
                (half - 1, top, 0, (0, 1, 1, 1)), (half - 1, top, 1, (0, 0, 1, 0)),
                (0, top, 0, (0, 0, 1, 0)), (0, top, 1, (1, 0, 1, 0)),
                (top, 0, 0, (0, 1, 0, 0)), (top, top, 0, (1, 0, 0, 0)),
                (top, top, 1, (0, 1, 1, 0)), (top, half - 1, 0, (0, 1, 0, 0)),
                (top, half - 1, 1, (0, 0, 0, 1)),
            ):
                self.check(width, ("less", a, b, k), wanted)

    def test_logic_left_right(self):
        for width in WIDTHS:
            half = 2 ** (width - 1)
            top = 2 ** width - 1
            for kind, a, wanted in (
                ("logic", 0, (1, 0, 0, 0)), ("logic", 1, (0, 0, 0, 0)),
                ("logic", half - 1, (0, 0, 0, 0)), ("logic", half, (0, 1, 0, 0)),
                ("logic", top, (0, 1, 0, 0)),
                ("left", 0, (1, 0, 0, 0)), ("left", 1, (0, 0, 0, 0)),
                ("left", half // 2 - 1, (0, 0, 0, 0)), ("left", half // 2, (0, 1, 0, 0)),
                ("left", half - 1, (0, 1, 0, 0)), ("left", half, (1, 0, 1, 0)),
                ("left", half + 1, (0, 0, 1, 0)), ("left", top, (0, 1, 1, 0)),
                ("right", 0, (1, 0, 0, 0)), ("right", 1, (1, 0, 1, 0)),
                ("right", 2, (0, 0, 0, 0)), ("right", 3, (0, 0, 1, 0)),
                ("right", half - 1, (0, 0, 1, 0)), ("right", half, (0, 0, 0, 0)),
                ("right", top, (0, 0, 1, 0)),
            ):
                self.check(width, (kind, a, 0, 0), wanted)

    def test_more_fewer(self):
        for width in WIDTHS:
            half = 2 ** (width - 1)
            top = 2 ** width - 1
            for kind, a, nought, sign, over in (
                ("more", 0, 0, 0, 0), ("more", 1, 0, 0, 0), ("more", half - 2, 0, 0, 0),
                ("more", half - 1, 0, 1, 1), ("more", half, 0, 1, 0),
                ("more", top - 1, 0, 1, 0), ("more", top, 1, 0, 0),
                ("fewer", 0, 0, 1, 0), ("fewer", 1, 1, 0, 0), ("fewer", 2, 0, 0, 0),
                ("fewer", half - 1, 0, 0, 0), ("fewer", half, 0, 0, 1),
                ("fewer", half + 1, 0, 1, 0), ("fewer", top, 0, 1, 0),
            ):
                for c, carry in ((0, 0), (1, 1), (2, 0), (3, 1), (top - 1, 0), (top, 1), (half, 0)):
                    self.check(width, (kind, a, 0, c), (nought, sign, carry, over))

    def test_edges_at_each_width_beside_a_reckoning_by_bits(self):
        for width in WIDTHS:
            for kind, a, b, k in itertools.product(KINDS, patterns(width), patterns(width), (0, 1)):
                wanted = bit_marks(width, kind, a, b, k)
                self.assertMarks(marks_of(width, (kind, a, b, k)), wanted)

    def test_every_sum_and_less_of_8_bits_beside_a_reckoning_by_bits(self):
        for kind, a, b, k in itertools.product(("sum", "less"), range(256), range(256), (0, 1)):
            told = marks_of(8, (kind, a, b, k))
            if told != bit_marks(8, kind, a, b, k):
                self.fail((kind, a, b, k, told))

    def test_every_other_record_of_8_bits_beside_a_reckoning_by_bits(self):
        kinds = ("bits", "logic", "left", "right", "more", "fewer")
        for kind, a, k in itertools.product(kinds, range(256), (0, 1)):
            self.assertMarks(marks_of(8, (kind, a, 0, k)), bit_marks(8, kind, a, 0, k))

    def test_each_mark_is_told_both_ways_where_the_kind_can(self):
        both = {0, 1}
        can = {
            "bits": (both, both, both, both),
            "sum": (both, both, both, both),
            "less": (both, both, both, both),
            "logic": (both, both, {0}, {0}),
            "left": (both, both, both, {0}),
            "right": (both, {0}, both, {0}),
            "more": (both, both, both, both),
            "fewer": (both, both, both, both),
        }
        for width, kind in itertools.product(WIDTHS, KINDS):
            rows = [
                marks_of(width, (kind, a, b, k))
                for a, b, k in itertools.product(edges(width), edges(width), (0, 1))
            ]
            with self.subTest(width=width, kind=kind):
                self.assertEqual(tuple(set(column) for column in zip(*rows)), can[kind])


class Used(Whole):
    WANTED = {
        "bits": (0,), "logic": (0,), "left": (0,), "right": (0,),
        "sum": (0, 1, 2), "less": (0, 1, 2), "more": (0, 2), "fewer": (0, 2),
    }

    def test_the_tuples(self):
        self.assertEqual(set(self.WANTED), set(KINDS))
        for kind, wanted in self.WANTED.items():
            with self.subTest(kind):
                self.assertIsInstance(used(kind), tuple)
                self.assertEqual(used(kind), wanted)
                for place in used(kind):
                    self.assertTrue(is_whole(place))

    def test_what_is_not_used_changes_no_mark(self):
        for width, kind in itertools.product(WIDTHS, KINDS):
            for a, k, place in itertools.product(edges(width), (0, 1), (0, 1, 2)):
                if place in self.WANTED[kind]:
                    continue
                numbers = [a, a, k]
                wanted = marks_of(width, (kind, *numbers))
                for other in patterns(width):
                    numbers[place] = other
                    self.assertMarks(marks_of(width, (kind, *numbers)), wanted)

    def test_what_is_used_changes_some_mark(self):
        for width, kind in itertools.product(WIDTHS, KINDS):
            for place in self.WANTED[kind]:
                told = set()
                for number in edges(width):
                    numbers = [0, 0, 0]
                    numbers[place] = number
                    told.add(marks_of(width, (kind, *numbers)))
                with self.subTest(width=width, kind=kind, place=place):
                    self.assertGreater(len(told), 1)

    def test_of_c_the_lowest_bit_alone_counts(self):
        for width, kind in itertools.product(WIDTHS, KINDS):
            for a, b in itertools.product(edges(width), edges(width)):
                for k in (0, 1):
                    wanted = marks_of(width, (kind, a, b, k))
                    for above in (2, 4, 128, 2 ** (width - 1), 2 ** width - 2):
                        self.assertMarks(marks_of(width, (kind, a, b, k + above)), wanted)

    def test_in_bits_the_bits_of_a_above_the_third_do_not_count(self):
        for width, n in itertools.product(WIDTHS, range(16)):
            wanted = marks_of(width, ("bits", n, 0, 0))
            for above in (16, 32, 128, 2 ** (width - 1), 2 ** width - 16):
                self.assertMarks(marks_of(width, ("bits", n + above, 0, 0)), wanted)


class Asked(Whole):
    def test_every_ask_of_every_row_of_marks(self):
        for marks in ALL_MARKS:
            nought, sign, carry, over = marks
            wanted = (nought, 1 - nought, sign, 1 - sign, carry, 1 - carry, over, 1 - over)
            for ask in range(8):
                with self.subTest(marks=marks, ask=ask):
                    self.assertWhole(asked(marks, ask), wanted[ask])

    def test_written_out(self):
        for marks, wanted in (
            ((0, 0, 0, 0), [0, 1, 0, 1, 0, 1, 0, 1]), ((1, 0, 0, 0), [1, 0, 0, 1, 0, 1, 0, 1]),
            ((0, 1, 0, 0), [0, 1, 1, 0, 0, 1, 0, 1]), ((0, 0, 1, 0), [0, 1, 0, 1, 1, 0, 0, 1]),
            ((0, 0, 0, 1), [0, 1, 0, 1, 0, 1, 1, 0]), ((1, 1, 1, 1), [1, 0, 1, 0, 1, 0, 1, 0]),
        ):
            with self.subTest(marks):
                self.assertEqual([asked(marks, ask) for ask in range(8)], wanted)

    def test_of_the_marks_of_records(self):
        marks = marks_of(8, ("sum", 200, 100, 0))
        self.assertEqual([asked(marks, ask) for ask in range(8)], [0, 1, 0, 1, 1, 0, 0, 1])


class Reckoned(Whole):
    def check(self, width, word, one, other, wanted):
        with self.subTest(width=width, word=word, one=one, other=other):
            self.assertWhole(reckoned(width, word, one, other), wanted)

    def test_written_out(self):
        for word, one, other, wanted in (
            ("add", 200, 100, 44), ("add", 255, 1, 0), ("add", 127, 1, 128), ("add", 0, 0, 0),
            ("sub", 100, 200, 156), ("sub", 0, 1, 255), ("sub", 128, 1, 127), ("sub", 5, 5, 0),
            ("and", 0b1100, 0b1010, 0b1000), ("and", 255, 170, 170), ("and", 85, 170, 0),
            ("or", 0b1100, 0b1010, 0b1110), ("or", 85, 170, 255), ("or", 0, 0, 0),
            ("xor", 0b1100, 0b1010, 0b0110), ("xor", 255, 255, 0), ("xor", 255, 0, 255),
            ("not", 0, 9, 255), ("not", 255, 9, 0), ("not", 85, 9, 170), ("not", 128, 9, 127),
            ("left", 0, 9, 0), ("left", 1, 9, 2), ("left", 127, 9, 254), ("left", 128, 9, 0),
            ("left", 255, 9, 254), ("right", 0, 9, 0), ("right", 1, 9, 0), ("right", 3, 9, 1),
            ("right", 128, 9, 64), ("right", 255, 9, 127),
        ):
            self.check(8, word, one, other, wanted)

    def test_edges_at_each_width(self):
        for width in WIDTHS:
            half = 2 ** (width - 1)
            top = 2 ** width - 1
            for word, one, other, wanted in (
                ("add", top, 1, 0), ("add", top, top, top - 1), ("add", half, half, 0),
                ("add", half - 1, 1, half), ("add", top, 0, top), ("add", 0, top, top),
                ("sub", 0, 1, top), ("sub", 0, top, 1), ("sub", top, top, 0),
                ("sub", 0, half, half), ("sub", half, 1, half - 1), ("sub", top, 0, top),
                ("and", top, half, half), ("and", half - 1, half, 0), ("and", top, top, top),
                ("or", half - 1, half, top), ("or", 0, half, half), ("or", top, 0, top),
                ("xor", top, half, half - 1), ("xor", half, half, 0), ("xor", 0, top, top),
                ("not", 0, 0, top), ("not", top, 0, 0), ("not", half, 0, half - 1),
                ("not", half - 1, 0, half), ("not", 1, 0, top - 1),
                ("left", half, 0, 0), ("left", top, 0, top - 1), ("left", half - 1, 0, top - 1),
                ("left", half + 1, 0, 2), ("left", half // 2, 0, half),
                ("right", top, 0, half - 1), ("right", half, 0, half // 2), ("right", 1, 0, 0),
            ):
                self.check(width, word, one, other, wanted)

    def test_bit_by_bit_at_each_width(self):
        tables = {"and": (0, 0, 0, 1), "or": (0, 1, 1, 1), "xor": (0, 1, 1, 0)}
        for width, word in itertools.product(WIDTHS, tables):
            for one, other in itertools.product(patterns(width), repeat=2):
                wanted = sum(
                    tables[word][2 * (one >> place & 1) + (other >> place & 1)] << place
                    for place in range(width))
                self.check(width, word, one, other, wanted)

    def test_sums_and_turned_bits_at_each_width(self):
        for width in WIDTHS:
            span = 2 ** width
            for one, other in itertools.product(patterns(width), repeat=2):
                self.check(width, "add", one, other, (one + other) % span)
                self.check(width, "sub", one, other, (one - other) % span)
                self.check(width, "not", one, other, one ^ span - 1)
                self.check(width, "left", one, other, one * 2 % span)
                self.check(width, "right", one, other, one >> 1)

    def test_not_left_and_right_do_not_look_at_the_other_number(self):
        for width in WIDTHS:
            for word, one in itertools.product(("not", "left", "right"), patterns(width)):
                wanted = reckoned(width, word, one, 0)
                for other in patterns(width) + [None]:
                    self.check(width, word, one, other, wanted)

    def test_the_others_do_look_at_it(self):
        for width, word in itertools.product(WIDTHS, OPERANDS):
            self.assertNotEqual(reckoned(width, word, 5, 3), reckoned(width, word, 5, 10))


class NothingChanges(unittest.TestCase):
    def test_told_the_same_each_time_and_records_stay(self):
        for width, kind in itertools.product(WIDTHS, KINDS):
            record = (kind, 5, 3, 1)
            first = marks_of(width, record)
            self.assertEqual(marks_of(width, record), first)
            self.assertEqual(record, (kind, 5, 3, 1))


if __name__ == "__main__":
    unittest.main()
