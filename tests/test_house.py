"""Stage 4, [4.1] to [4.3], and [0.2]: the forms of house rows, which are right, how they are run."""

import itertools
import unittest

from hostturn.errors import BadRows, HostError
from hostturn.guest import Guest
from hostturn.house import check_rows, run_rows
from hostturn.words import KINDS, marks_of
from samples import ALL_MARKS, ENDS, ROW_FORMS, WIDTHS, Whole, edges, greatest, is_whole, patterns

FLOOR = [place * 7 % 256 for place in range(256)]

LAST = ("leave", 0, 0)
ODD = (None, True, False, "", "0", "sum", 0.0, 1.0, b"", [], [0], (), (0,), {}, {0: 0}, {0}, object(), int)


def row_of(word, form, number=0):
    """A row of the form, with this number for each of its parts."""
    return (word,) + tuple("sum" if sort == "k" else number for sort in form)


def with_part(row, place, part):
    return row[:place] + (part,) + row[place + 1:]


def never(address):
    return False


class Rows(Whole):
    def right(self, width, rows):
        kept = list(rows)
        self.assertIsNone(check_rows(width, rows))
        self.assertEqual(rows, kept)

    def wrong(self, width, rows, at):
        """Refused by check_rows, and by run_rows, which leaves all as it was."""
        kept = list(rows) if isinstance(rows, list) else rows
        guest = Guest(width, FLOOR, [5] * 8, (0, 1, 0, 1), [3], 9)
        stand, record, asked = guest.stand(), guest.record, []
        for refused in (
            lambda: check_rows(width, rows), lambda: run_rows(guest, rows, asked.append),
        ):
            with self.assertRaises(HostError, msg=repr(rows)[:100]) as caught:
                refused()
            self.assertIs(caught.exception.__class__, BadRows)
            self.assertEqual(caught.exception.at, at)
            self.assertTrue(at is None or is_whole(caught.exception.at))
        self.assertEqual((guest.stand(), guest.record, asked), (stand, record, []))
        if isinstance(rows, list):
            self.assertEqual(len(rows), len(kept))
            self.assertTrue(all(one is other for one, other in zip(rows, kept)))

    def wrong_row(self, width, row):
        """A row that is of none of the forms, wherever it stands."""
        self.wrong(width, [row], 0)
        self.wrong(width, [row, LAST], 0)
        self.wrong(width, [("send", 0), ("put", 1, 1), row, ("send", 0), LAST], 2)
        self.wrong(width, [("send", 0), row], 1)

    def whole(self, word, row):
        return [row] if word in ENDS else [row, LAST]


class Forms(Rows):
    def test_each_part_at_its_bounds(self):
        for width, (word, form) in itertools.product(WIDTHS, ROW_FORMS):
            self.right(width, self.whole(word, row_of(word, form)))
            for place, sort in enumerate(form, 1):
                if sort == "k":
                    continue
                for part in (0, 1, greatest(sort, width) - 1, greatest(sort, width)):
                    self.right(width, self.whole(word, with_part(row_of(word, form), place, part)))

    def test_all_parts_at_their_greatest(self):
        for width, (word, form) in itertools.product(WIDTHS, ROW_FORMS):
            row = (word,) + tuple("fewer" if sort == "k" else greatest(sort, width) for sort in form)
            self.right(width, self.whole(word, row))

    def test_each_part_beyond_its_bounds(self):
        for width, (word, form) in itertools.product(WIDTHS, ROW_FORMS):
            for place, sort in enumerate(form, 1):
                if sort == "k":
                    continue
                for part in (-1, greatest(sort, width) + 1, -100, 10 ** 20):
                    self.wrong_row(width, with_part(row_of(word, form), place, part))

    def test_each_part_of_other_kinds(self):
        for width, (word, form) in itertools.product(WIDTHS, ROW_FORMS):
            for place, sort in enumerate(form, 1):
                for part in ODD:
                    if sort != "k" or part != "sum":
                        self.wrong_row(width, with_part(row_of(word, form, 1), place, part))

    def test_each_kind_of_record(self):
        for width, kind in itertools.product(WIDTHS, KINDS):
            self.right(width, [("keep", kind, 0, 15, 7), LAST])
        for kind in ("", "Sum", "SUM", "sum ", "add", "keep", "over", 0, ("sum",), ["sum"], None):
            self.wrong_row(8, ("keep", kind, 0, 0, 0))

    def test_a_number_of_another_width(self):
        self.right(16, [("put", 0, 256), LAST])
        self.right(32, [("put", 0, 65536), ("get", 0, 0, 65536, 0, 0), ("set", 0, 65536, 0, 0, 0, 0), LAST])
        for width, number in ((8, 256), (8, 65535), (16, 65536), (16, 4294967295)):
            self.wrong_row(width, ("put", 0, number))
            self.wrong_row(width, ("get", 0, 0, number, 0, 0))
            self.wrong_row(width, ("set", 0, number, 0, 0, 0, 0))

    def test_a_part_more_or_fewer(self):
        for width, (word, form) in itertools.product(WIDTHS, ROW_FORMS):
            row = row_of(word, form)
            self.wrong_row(width, row[:-1])
            self.wrong_row(width, row + (0,))
            self.wrong_row(width, row + (None,))
            self.wrong_row(width, row[:1])

    def test_another_word(self):
        for word in ("", "PUT", "Put", "put ", " put", "jump", "cmp", "addk", "more", "sum", "on", "out",
                     "end", "puts", "pu"):
            for many in range(7):
                self.wrong_row(8, (word,) + (0,) * many)

    def test_a_word_of_another_kind(self):
        for word, many in itertools.product((*ODD, 0, 1, ("put",), ["put"]), range(4)):
            self.wrong_row(8, (word,) + (0,) * many)

    def test_no_tuple(self):
        for row in (*ODD, 0, 1, ["put", 0, 0], ["leave", 0, 0], ["send", 0], "put", "leave 0 0", {"put": 0},
                    (("put", 0, 0),), [("leave", 0, 0)], ((),)):
            self.wrong_row(8, row)


class Ends(Rows):
    def test_each_end_alone_at_the_end(self):
        for width, (word, form) in itertools.product(WIDTHS, ROW_FORMS):
            row = row_of(word, form)
            if word in ENDS:
                self.right(width, [row])
                self.right(width, [("put", 1, 1), row])
            else:
                self.wrong(width, [row], 0)
                self.wrong(width, [("put", 1, 1), row], 1)
                self.wrong(width, [("put", 1, 1)] * 99 + [row], 99)

    def test_an_end_amid(self):
        for width, (word, form) in itertools.product(WIDTHS, ROW_FORMS):
            if word not in ENDS:
                continue
            row = row_of(word, form)
            self.wrong(width, [row, LAST], 0)
            self.wrong(width, [("send", 0), row, ("send", 0), LAST], 1)
            self.wrong(width, [("send", 0), ("send", 1), row, row], 2)
            self.wrong(width, [row] * 3, 0)

    def test_the_first_wrong_row_is_told(self):
        bad, end = ("nope",), ("stop", 0, 0)
        for rows, at in (
            ([bad, bad], 0), ([("send", 0), bad, bad], 1), ([bad, end, end], 0), ([end, bad], 0),
            ([end, ("send", 0)], 0), ([("send", 0), ("send", 0)], 1), ([("send", 0), bad], 1),
            ([("send", 0), end, bad, end], 1), ([("send", 0), bad, end, end], 1),
            ([("send", 0), ("send", 16), ("send", 0)], 1),
            ([("send", 0)] * 50 + [bad] + [end] * 49, 50),
        ):
            self.wrong(8, rows, at)


class Lengths(Rows):
    def test_one_to_a_hundred(self):
        for many in (1, 2, 50, 99, 100):
            self.right(8, [("send", 0)] * (many - 1) + [LAST])

    def test_none_or_more_than_a_hundred(self):
        self.wrong(8, [], None)
        for many in (101, 102, 1000):
            self.wrong(8, [("send", 0)] * (many - 1) + [LAST], None)
            self.wrong(8, [("nope",)] * many, None)
            self.wrong(8, [LAST] * many, None)

    def test_a_hundred_with_a_wrong_one(self):
        self.wrong(8, [("send", 0)] * 100, 99)
        self.wrong(8, [("send", 0)] * 98 + [LAST, LAST], 98)
        self.wrong(8, [("nope",)] + [("send", 0)] * 98 + [LAST], 0)

    def test_no_list(self):
        for rows in (None, True, False, 0, 1, "", "leave", (), (LAST,), LAST, {}, {0: LAST}, {LAST}, b"",
                     iter([LAST]), object(), 1.5):
            self.wrong(8, rows, None)


class Run(Rows):
    def run_at(self, guest, rows, yes=()):
        """What is told, and of which addresses the watch was asked; the rows stay."""
        kept, asked = list(rows), []

        def watch(address):
            asked.append(address)
            return address in yes

        told = run_rows(guest, rows, watch)
        self.assertEqual(rows, kept)
        self.assertIsInstance(told, tuple)
        self.assertTrue(is_whole(told[1]) and is_whole(told[2]))
        for number in (*guest.boxes, *guest.floor, *guest.sent, *guest.record[1:], guest.place, guest.done):
            self.assertTrue(is_whole(number))
        for address in asked:
            self.assertTrue(is_whole(address))
        return told, asked

    def check(self, guest, rows, told, asked=(), yes=(), **wanted):
        """The rows tell this; of the guest only what is named changes, and place and count as told."""
        stand, record = guest.stand(), guest.record
        self.assertEqual(self.run_at(guest, rows, yes), (told, list(asked)))
        self.assertEqual(guest.record, wanted.get("record", record))
        self.assertEqual(guest.stand(), (
            wanted.get("boxes", stand[0]), marks_of(guest.width, wanted.get("record", record)),
            wanted.get("floor", stand[2]), told[2], wanted.get("sent", stand[4]), stand[5] + told[1]))
        self.assertEqual(len(guest.boxes), 8)

    def written(self, width, row, boxes, marks=(0, 0, 0, 0)):
        """The number that a row writes to its box, box 0 of the guest told for the house's 8 to 15."""
        guest = Guest(width, FLOOR, boxes, marks)
        wanted = list(boxes)
        box = row[1]
        rows = [row, LAST] if box < 8 else [row, ("copy", 0, box), LAST]
        told, asked = self.run_at(guest, rows)
        self.assertEqual((told, asked), (("on", 0, 0), []))
        result = guest.boxes[box % 8 if box < 8 else 0]
        wanted[box if box < 8 else 0] = result
        self.assertEqual(guest.stand(), (wanted, marks, FLOOR, 0, [], 0))
        self.assertEqual(guest.record, Guest(width, FLOOR, boxes, marks).record)
        return result


class Numbers(Run):
    def test_put_and_copy(self):
        for width, box in itertools.product(WIDTHS, range(16)):
            for number in patterns(width):
                self.assertEqual(self.written(width, ("put", box, number), [9] * 8), number)
                self.assertEqual(self.written(width, ("copy", box, 3), [9, 9, 9, number, 9, 9, 9, 9]), number)

    def test_words_of_one(self):
        for width in WIDTHS:
            top = 2 ** width - 1
            for number, box in itertools.product(patterns(width), (0, 2, 7, 8, 15)):
                boxes = [9, 9, number, 9, 9, 9, 9, 9]
                self.assertEqual(self.written(width, ("not", box, 2), boxes), top - number)
                self.assertEqual(self.written(width, ("left", box, 2), boxes), number * 2 % (top + 1))
                self.assertEqual(self.written(width, ("right", box, 2), boxes), number // 2)

    def test_words_of_two(self):
        for width in WIDTHS:
            span = 2 ** width
            for one, other in itertools.product(patterns(width), repeat=2):
                for word, wanted in (
                    ("add", (one + other) % span), ("sub", (one - other) % span), ("and", one & other),
                    ("or", one | other), ("xor", one ^ other),
                ):
                    boxes = [0, one, 0, 0, other, 0, 0, 0]
                    for box in (1, 4, 6, 12):
                        self.assertEqual(self.written(width, (word, box, 1, 4), boxes), wanted)

    def test_one_box_for_all(self):
        for width in WIDTHS:
            for one in edges(width):
                boxes = [0, 0, 0, 0, 0, one, 0, 0]
                for word, wanted in (("add", one * 2 % 2 ** width), ("sub", 0), ("and", one), ("or", one),
                                     ("xor", 0)):
                    self.assertEqual(self.written(width, (word, 5, 5, 5), boxes), wanted)

    def test_mark_by_the_record(self):
        for width, marks, ask in itertools.product(WIDTHS, ALL_MARKS, range(8)):
            wanted = marks[ask // 2] ^ ask % 2
            self.assertEqual(self.written(width, ("mark", 3, ask), [9] * 8, marks), wanted)
            self.assertEqual(self.written(width, ("mark", 13, ask), [9] * 8, marks), wanted)

    def test_the_upper_boxes_are_0_at_the_begin_of_each_run(self):
        for width, box in itertools.product(WIDTHS, range(8, 16)):
            guest = Guest(width, FLOOR, [9] * 8)
            for turn in range(3):
                self.check(guest, [("send", box), ("put", box, 200), ("send", box), LAST], ("on", 0, 0),
                           sent=[0, 200] * (turn + 1))

    def test_the_lower_boxes_are_the_guests(self):
        for width in WIDTHS:
            boxes = edges(width)[-8:]
            guest = Guest(width, FLOOR, boxes)
            self.check(guest, [("send", box) for box in range(16)] + [LAST], ("on", 0, 0),
                       sent=boxes + [0] * 8)

    def test_boxes_changed_by_hand_count_from_then_on(self):
        guest = Guest(8, FLOOR)
        run_rows(guest, [("put", 1, 5), LAST], never)
        guest.boxes[2] = 77
        guest.floor[5] = 99
        self.check(guest, [("copy", 3, 2), ("get", 4, 1, 0, 0, 0), LAST], ("on", 0, 0),
                   boxes=[0, 5, 77, 77, 99, 0, 0, 0])


class Records(Run):
    def test_keep(self):
        for width, kind in itertools.product(WIDTHS, KINDS):
            for a, b, c in ((0, 1, 2), (7, 7, 7), (3, 0, 15), (8, 9, 1)):
                boxes = edges(width)[-8:]
                house = boxes + [0] * 8
                guest = Guest(width, FLOOR, boxes, (1, 0, 1, 0))
                self.check(guest, [("keep", kind, a, b, c), LAST], ("on", 0, 0),
                           record=(kind, house[a], house[b], house[c]))

    def test_the_whole_number_of_c_is_kept(self):
        guest = Guest(16, FLOOR, [1, 2, 770, 0, 0, 0, 0, 0])
        self.check(guest, [("keep", "sum", 0, 1, 2), LAST], ("on", 0, 0), record=("sum", 1, 2, 770))

    def test_a_mark_asks_the_newest_record(self):
        guest = Guest(8, FLOOR, [200, 100, 0, 0, 0, 0, 0, 0], (1, 0, 0, 0))
        rows = [("mark", 2, 0), ("keep", "sum", 0, 1, 15), ("mark", 3, 4), ("mark", 4, 0),
                ("put", 0, 0), ("mark", 5, 4), ("keep", "logic", 0, 0, 0), ("mark", 6, 0), LAST]
        self.check(guest, rows, ("on", 0, 0), boxes=[0, 100, 1, 1, 0, 1, 1, 0], record=("logic", 0, 0, 0))


class GetAndSet(Run):
    def test_get(self):
        for width, address in itertools.product(WIDTHS, (0, 1, 127, 128, 254, 255)):
            for k in edges(width):
                boxes = [9, 9, (address - k) % 2 ** width, 9, 9, 9, 9, 9]
                wanted = list(boxes)
                wanted[5] = FLOOR[address]
                guest = Guest(width, FLOOR, boxes, None, list(range(16)))
                self.check(guest, [("get", 5, 2, k, 3, 4), ("leave", 1, 2)], ("on", 1, 2), boxes=wanted)

    def test_get_to_an_upper_box_and_over_its_own(self):
        guest = Guest(8, FLOOR, [3] * 8)
        self.check(guest, [("get", 9, 8, 5, 0, 0), ("get", 1, 1, 6, 0, 0), ("send", 9), LAST], ("on", 0, 0),
                   sent=[35], boxes=[3, 63, 3, 3, 3, 3, 3, 3])

    def test_out(self):
        for width in (16, 32):
            for address in (256, 257, 2 ** (width - 1), 2 ** width - 1):
                for k, n, p in ((0, 0, 0), (1, 99, 255), (2 ** width - 1, 4, 7)):
                    boxes = [1, (address - k) % 2 ** width, 3, 4, 5, 6, 7, 8]
                    for row in (("get", 2, 1, k, n, p), ("set", 1, k, 2, n, p, 77)):
                        guest = Guest(width, FLOOR, boxes, (0, 1, 0, 0), list(range(16)), 50)
                        self.check(guest, [row, ("send", 0), ("leave", 1, 2)], ("out", n, p))

    def test_never_out_at_8_bits(self):
        guest = Guest(8, FLOOR, [255] * 8)
        self.check(guest, [("get", 0, 1, 255, 0, 0), LAST], ("on", 0, 0), boxes=[FLOOR[254]] + [255] * 7)

    def test_set(self):
        for width, address in itertools.product(WIDTHS, (0, 1, 127, 128, 254, 255)):
            for k, number in itertools.product((0, 1, 2 ** width - 1), patterns(width)):
                boxes = [9, 9, (address - k) % 2 ** width, 9, 9, 9, number, 9]
                wanted = list(FLOOR)
                wanted[address] = number % 256
                guest = Guest(width, FLOOR, boxes, (1, 0, 0, 1))
                self.check(guest, [("set", 2, k, 6, 3, 4, 5), ("leave", 1, 2)], ("on", 1, 2), [address],
                           floor=wanted)

    def test_set_from_upper_boxes(self):
        wanted = list(FLOOR)
        wanted[40] = 7
        guest = Guest(8, FLOOR)
        self.check(guest, [("put", 8, 30), ("put", 15, 7), ("set", 8, 10, 15, 0, 0, 0), LAST], ("on", 0, 0),
                   [40], floor=wanted)

    def test_ward(self):
        for width, page in itertools.product(WIDTHS, range(16)):
            for address in (16 * page - 1, 16 * page, 16 * page + 15, 16 * page + 16):
                if not 0 <= address <= 255:
                    continue
                guest = Guest(width, FLOOR, [address, 1, 2, 3, 4, 5, 6, 7], (0, 0, 1, 0), [page], 9)
                rows = [("set", 0, 0, 1, 6, 66, 67), ("leave", 8, 88)]
                if address // 16 == page:
                    self.check(guest, rows, ("ward", 6, 66), yes=range(256))
                else:
                    wanted = list(FLOOR)
                    wanted[address] = 1
                    self.check(guest, rows, ("on", 8, 88), [address], floor=wanted)

    def test_faults_keep_what_was_done_ahead(self):
        for row, word in (
            (("get", 0, 7, 0, 3, 30), "out"), (("set", 7, 0, 0, 3, 30, 31), "out"),
            (("set", 6, 0, 0, 3, 30, 31), "ward"),
        ):
            wanted = list(FLOOR)
            wanted[11] = 5
            guest = Guest(16, FLOOR, [0, 0, 0, 0, 0, 0, 32, 256], None, [2], 90)
            rows = [("put", 1, 5), ("send", 1), ("set", 1, 6, 1, 1, 1, 1), ("keep", "less", 1, 7, 8), row,
                    ("put", 1, 6), ("send", 1), ("stop", 9, 99)]
            self.check(guest, rows, (word, 3, 30), [11], boxes=[0, 5, 0, 0, 0, 0, 32, 256], sent=[5],
                       record=("less", 5, 256, 0), floor=wanted)


class Watch(Run):
    def rows(self):
        """Three sets at 100, 101 and 100 again, with a number sent behind each."""
        return [("put", 8, 100), ("put", 1, 1),
                ("set", 8, 0, 1, 0, 10, 11), ("send", 1), ("put", 1, 2),
                ("set", 8, 1, 1, 1, 20, 21), ("send", 1), ("put", 1, 3),
                ("set", 8, 0, 1, 99, 30, 31), ("send", 1), ("leave", 50, 40)]

    def test_its_no_lets_the_rows_go_on(self):
        wanted = list(FLOOR)
        wanted[100:102] = [3, 2]
        self.check(Guest(8, FLOOR), self.rows(), ("on", 50, 40), [100, 101, 100], sent=[1, 2, 3],
                   boxes=[0, 3, 0, 0, 0, 0, 0, 0], floor=wanted)

    def test_its_yes_ends_the_rows_behind_the_writing(self):
        wanted = list(FLOOR)
        wanted[100] = 1
        self.check(Guest(8, FLOOR), self.rows(), ("on", 1, 11), [100], [100],
                   boxes=[0, 1, 0, 0, 0, 0, 0, 0], floor=wanted)
        wanted[101] = 2
        self.check(Guest(8, FLOOR), self.rows(), ("on", 2, 21), [100, 101], [101], sent=[1],
                   boxes=[0, 2, 0, 0, 0, 0, 0, 0], floor=wanted)

    def test_its_yes_at_the_greatest_count(self):
        wanted = list(FLOOR)
        wanted[0] = 0
        guest = Guest(8, FLOOR)
        self.check(guest, [("set", 8, 0, 8, 99, 1, 255), LAST], ("on", 100, 255), [0], [0], floor=wanted)
        self.assertEqual((guest.done, guest.place), (100, 255))

    def test_it_is_asked_behind_the_writing(self):
        guest = Guest(8, FLOOR)
        seen = []

        def watch(address):
            seen.append((address, guest.floor[address], list(guest.sent), guest.record))
            return False

        run_rows(guest, [("keep", "left", 8, 8, 8)] + self.rows(), watch)
        record = ("left", 0, 0, 0)
        self.assertEqual(seen, [(100, 1, [], record), (101, 2, [1], record), (100, 3, [1, 2], record)])

    def test_a_byte_written_as_it_was_is_asked_of_too(self):
        guest = Guest(8, FLOOR, [3, FLOOR[3], 0, 0, 0, 0, 0, 0])
        self.check(guest, [("set", 0, 0, 1, 4, 5, 6), LAST], ("on", 5, 6), [3], [3])

    def test_it_is_asked_of_nothing_else(self):
        guest = Guest(16, FLOOR, [1, 2, 300, 40, 0, 0, 0, 0], None, [2])
        for rows, told in (
            ([("get", 4, 0, 0, 0, 0), ("send", 0), ("keep", "sum", 0, 1, 2), ("mark", 5, 0), ("go", 0, 0)],
             ("on", 0, 1)),
            ([("get", 4, 2, 0, 0, 0), LAST], ("out", 0, 0)), ([("set", 2, 0, 0, 0, 0, 0), LAST], ("out", 0, 0)),
            ([("set", 3, 0, 0, 0, 0, 0), LAST], ("ward", 0, 0)), ([("stop", 0, 7)], ("stop", 0, 7)),
        ):
            self.assertEqual(self.run_at(guest, rows, range(65536)), (told, []))

    def test_rows_changed_by_the_watch_are_run_as_handed_in(self):
        for change in (list.clear, list.pop, lambda rows: rows.insert(0, ("send", 7)),
                       lambda rows: rows.append(("nope",))):
            rows = self.rows()
            guest = Guest(8, FLOOR)
            self.assertEqual(run_rows(guest, rows, lambda address: change(rows) == "yes"), ("on", 50, 40))
            self.assertEqual((guest.sent, guest.boxes), ([1, 2, 3], [0, 3, 0, 0, 0, 0, 0, 0]))


class Leaving(Run):
    def test_leave_and_stop(self):
        for width, n, q in itertools.product(WIDTHS, (0, 1, 98, 99), (0, 1, 254, 255)):
            guest = Guest(width, FLOOR, [1, 2, 3, 4, 5, 6, 7, 8], (0, 1, 0, 1), [1], 33)
            self.check(guest, [("leave", n, q)], ("on", n, q))
            self.check(guest, [("stop", n, q)], ("stop", n, q))
            self.assertEqual(guest.done, 2 * n)

    def test_part(self):
        for width in WIDTHS:
            for number in edges(width):
                for box in (0, 7):
                    boxes = [0 if number else 1] * 8
                    boxes[box] = number
                    guest = Guest(width, FLOOR, boxes)
                    self.check(guest, [("part", box, 5, 60, 70)], ("on", 5, 60 if number else 70))
            self.check(Guest(width, FLOOR, [1] * 8), [("part", 8, 99, 60, 255)], ("on", 99, 255))
            self.check(Guest(width, FLOOR), [("put", 15, 2), ("part", 15, 0, 0, 255)], ("on", 0, 0))

    def test_go(self):
        for width in WIDTHS:
            for number in edges(width) + [255, 254, 77]:
                guest = Guest(width, FLOOR, [9, 9, number, 9, 9, 9, 9, 9])
                self.check(guest, [("go", 2, 7)], ("on", 7, number % 256))
            self.check(Guest(width, FLOOR, [1] * 8), [("go", 9, 99)], ("on", 99, 0))
        self.check(Guest(16, FLOOR, [511] * 8), [("go", 0, 0)], ("on", 0, 255))

    def test_the_count_goes_on_from_run_to_run(self):
        guest = Guest(8, FLOOR)
        for n, done in ((3, 3), (0, 3), (99, 102), (1, 103)):
            run_rows(guest, [("leave", n, n)], never)
            self.assertEqual((guest.done, guest.place), (done, n))

    def test_a_hundred_rows(self):
        guest = Guest(8, FLOOR, [3, 0, 0, 0, 0, 0, 0, 0])
        self.check(guest, [("add", 1, 1, 0)] * 99 + [("leave", 12, 200)], ("on", 12, 200),
                   boxes=[3, 297 % 256, 0, 0, 0, 0, 0, 0])

    def test_a_stretch_of_each_form(self):
        rows = [
            ("put", 0, 200), ("copy", 9, 0), ("not", 1, 9), ("left", 2, 9), ("right", 3, 9),
            ("add", 4, 9, 9), ("sub", 5, 1, 0), ("and", 6, 0, 2), ("or", 7, 0, 1), ("xor", 10, 0, 3),
            ("keep", "less", 1, 0, 8), ("mark", 11, 4), ("get", 12, 1, 0, 1, 1), ("set", 3, 0, 10, 2, 2, 3),
            ("send", 11), ("send", 12), ("send", 10), ("part", 11, 4, 44, 55),
        ]
        wanted = list(FLOOR)
        wanted[100] = 200 ^ 100
        guest = Guest(8, FLOOR)
        self.check(guest, rows, ("on", 4, 44), [100], sent=[1, FLOOR[55], 200 ^ 100], floor=wanted,
                   record=("less", 55, 200, 0), boxes=[200, 55, 144, 100, 144, 111, 128, 255])

    def test_a_run_leaves_twins_and_told_stands_alone(self):
        guest = Guest(8, FLOOR, [1] * 8)
        twin, told = guest.twin(), guest.stand()
        run_rows(guest, [("put", 0, 9), ("set", 0, 0, 0, 0, 0, 0), ("send", 0), ("leave", 2, 3)], never)
        self.assertEqual(twin.stand(), told)
        self.assertEqual(told, ([1] * 8, (0, 0, 0, 0), FLOOR, 0, [], 0))


if __name__ == "__main__":
    unittest.main()
