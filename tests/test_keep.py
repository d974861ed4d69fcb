"""Stage 9, [9.1] to [9.3], and [0.2]: guests kept as text, and read again."""

import itertools
import random
import unittest

from hostturn.errors import HostError, NoRow
from hostturn.guest import Guest
from hostturn.house import run_rows
from hostturn.keep import kept, read_kept
from hostturn.plain import run_plain, step
from hostturn.turned import Turned
from hostturn.words import KINDS
from samples import ALL_MARKS, GREATEST, WIDTHS, drawn_program, edges, floor_of, is_whole


def wanted_text(guest, wards):
    """The text as which a guest with these wards is kept, once more."""
    boxes, marks, floor, place, sent, done = guest.stand()
    rows = [
        f"width {guest.width} place {place} done {done}",
        "boxes " + " ".join(map(str, boxes)),
        "marks " + " ".join(map(str, marks)),
        "wards " + (" ".join(map(str, sorted(set(wards)))) or "none"),
        "sent " + (" ".join(map(str, sent)) or "none"),
    ]
    rows += [bytes(floor[start:start + 16]).hex() for start in range(0, 256, 16)]
    return "\n".join(rows)


def all_of(guest):
    """Stand and wards."""
    return guest.width, guest.stand(), [guest.is_ward(address) for address in range(256)]


def sending(width, numbers):
    """A guest that has sent these numbers, and counts as many steps."""
    guest = Guest(width, [0] * 256)
    for number in numbers:
        guest.boxes[0] = number
        run_rows(guest, [("send", 0), ("leave", 1, 0)], lambda address: False)
    return guest


def counted(width, done):
    """A guest that has done so many steps."""
    return read_kept(wanted_text(Guest(width, [0] * 256), []).replace("done 0", f"done {done}"))


class Kept(unittest.TestCase):
    def check(self, guest, wards):
        """The guest is kept so, stays as it is, and is read and kept again."""
        stood = all_of(guest), guest.record
        text = kept(guest)
        self.assertEqual(text, wanted_text(guest, wards))
        self.assertEqual((all_of(guest), guest.record), stood)
        self.assertEqual(len(text.split("\n")), 21)
        again = read_kept(text)
        self.assertIsInstance(again, Guest)
        self.assertEqual(all_of(again), stood[0])
        self.assertEqual(again.record[0], "bits")
        for number in (again.width, again.place, again.done, *again.boxes, *again.floor, *again.sent, *again.record[1:]):
            self.assertTrue(is_whole(number))
        self.assertEqual(kept(again), text)
        return again

    def test_written_out(self):
        guest = Guest(16, list(range(256)), [0, 1, 10, 65535, 256, 7, 100, 9], (1, 0, 1, 0), [15, 2, 2, 0], 255)
        rows = [
            "width 16 place 255 done 0",
            "boxes 0 1 10 65535 256 7 100 9",
            "marks 1 0 1 0",
            "wards 0 2 15",
            "sent none",
            "000102030405060708090a0b0c0d0e0f", "101112131415161718191a1b1c1d1e1f",
            "202122232425262728292a2b2c2d2e2f", "303132333435363738393a3b3c3d3e3f",
            "404142434445464748494a4b4c4d4e4f", "505152535455565758595a5b5c5d5e5f",
            "606162636465666768696a6b6c6d6e6f", "707172737475767778797a7b7c7d7e7f",
            "808182838485868788898a8b8c8d8e8f", "909192939495969798999a9b9c9d9e9f",
            "a0a1a2a3a4a5a6a7a8a9aaabacadaeaf", "b0b1b2b3b4b5b6b7b8b9babbbcbdbebf",
            "c0c1c2c3c4c5c6c7c8c9cacbcccdcecf", "d0d1d2d3d4d5d6d7d8d9dadbdcdddedf",
            "e0e1e2e3e4e5e6e7e8e9eaebecedeeef", "f0f1f2f3f4f5f6f7f8f9fafbfcfdfeff",
        ]
        self.assertEqual(kept(guest), "\n".join(rows))
        self.check(guest, [0, 2, 15])

    def test_a_new_one_of_each_width(self):
        for width in WIDTHS:
            text = kept(Guest(width, [0] * 256))
            self.assertEqual(text, "\n".join([
                f"width {width} place 0 done 0", "boxes 0 0 0 0 0 0 0 0", "marks 0 0 0 0", "wards none", "sent none",
            ] + ["0" * 32] * 16))
            self.check(Guest(width, [0] * 256), [])

    def test_boxes_marks_and_places(self):
        for width, marks in itertools.product(WIDTHS, ALL_MARKS):
            for place in (0, 9, 10, 99, 100, 255):
                self.check(Guest(width, [place] * 256, (edges(width) * 2)[place % 11:][:8], marks, None, place), [])

    def test_wards(self):
        draw = random.Random(1)
        for wards in ([], [0], [15], [3, 3], [9, 10, 1], list(range(16)), list(range(15, -1, -1)) * 2):
            self.check(Guest(8, [1] * 256, None, None, wards), wards)
        for turn in range(100):
            wards = [draw.randrange(16) for page in range(draw.randrange(20))]
            self.check(Guest(draw.choice(WIDTHS), [1] * 256, None, None, wards), wards)

    def test_numbers_sent(self):
        for width in WIDTHS:
            for sent in ([0], [0, 0], edges(width), [5, 4, 5, 4], edges(width) * 20):
                self.assertEqual(self.check(sending(width, sent), []).sent, sent)

    def test_records_of_all_kinds(self):
        for width, kind in itertools.product(WIDTHS, KINDS):
            for a, b, c in itertools.product(edges(width)[::3], edges(width)[::4], (0, 1, 2, 255)):
                guest = Guest(width, floor_of(width, "addc 1 2", "more 1", "mark 3 4", "subc 1 3", "jump -8"))
                guest.record = (kind, a, b, c)
                again = self.check(guest, [])
                self.assertEqual(run_plain(again, 5), run_plain(guest, 5))
                self.assertEqual(again.stand(), guest.stand())

    def test_lists_of_its_own(self):
        guest = sending(8, [1, 2])
        text = kept(guest)
        one, other = read_kept(text), read_kept(text)
        one.boxes[0], one.floor[0] = 9, 9
        one.sent.append(3)
        self.assertEqual(kept(other), text)
        self.assertEqual(kept(guest), text)

    def test_more_than_can_be_read_is_kept_as_well(self):
        guest = sending(8, [7] * 2001)
        self.assertEqual(kept(guest), wanted_text(guest, []))

    def test_both_go_on_alike_step_by_step(self):
        draw = random.Random(2)
        for turn in range(60):
            guest = drawn_program(draw, draw.choice(WIDTHS))
            run_plain(guest, draw.randrange(30))
            again = read_kept(kept(guest))
            for count in range(40):
                self.assertEqual(all_of(again), all_of(guest))
                self.assertEqual(step(again), step(guest))

    def test_both_go_on_alike_at_bells(self):
        draw = random.Random(3)
        for turn in range(60):
            guest = drawn_program(draw, draw.choice(WIDTHS))
            run = Turned(guest)
            for bell in range(0, 90, draw.randrange(1, 20)):
                # At each bell the one is kept and read again, with an empty shelf.
                again = read_kept(kept(guest))
                kept_run = Turned(again)
                self.assertEqual(run.run(bell), kept_run.run(bell))
                self.assertEqual(run_plain(guest, bell), run_plain(again, bell))
                self.assertEqual(run.stand(), kept_run.stand())
                self.assertEqual(run.stand(), again.stand())


class Read(unittest.TestCase):
    """[9.3]: what is refused, and the number of the row that is told."""

    def setUp(self):
        self.guest = Guest(16, list(range(256)), [0, 1, 2, 3, 4, 5, 6, 65535], (1, 0, 1, 0), [1, 3, 10], 7)
        self.guest.sent = [0, 300, 65535]
        self.guest.done = 12
        self.rows = kept(self.guest).split("\n")

    def refused(self, text, at):
        with self.assertRaises(HostError, msg=repr(text)) as caught:
            read_kept(text)
        self.assertIs(caught.exception.__class__, NoRow)
        self.assertEqual(caught.exception.at, at, repr(text))
        self.assertTrue(is_whole(caught.exception.at))

    def text_with(self, at, row):
        return "\n".join(self.rows[:at] + [row] + self.rows[at + 1:])

    def wrong(self, at, *rows):
        for row in rows:
            self.refused(self.text_with(at, row), at)

    def right(self, at, *rows):
        for row in rows:
            text = self.text_with(at, row)
            self.assertEqual(kept(read_kept(text)), text)

    def test_no_text(self):
        for thing in (None, 0, 5, True, [], list(self.rows), tuple(self.rows), {}, b"width", 1.5, object()):
            self.refused(thing, 0)

    def test_an_empty_text(self):
        self.refused("", 0)
        for text in ("\n", "\n" * 20, "\n" * 21, " "):
            self.refused(text, 0)

    def test_rows_that_lack(self):
        for many in range(1, 21):
            self.refused("\n".join(self.rows[:many]), many)
            self.refused("\n".join(self.rows[:many]) + "\n", many)
        for at in range(21):
            self.assertRaises(NoRow, read_kept, "\n".join(self.rows[:at] + self.rows[at + 1:]))
        self.refused("\n".join(self.rows[1:]), 0)
        self.refused("\n".join(self.rows[:3] + self.rows[4:]), 3)
        self.refused("\n".join(self.rows[:4] + self.rows[5:]), 4)
        self.refused("\n".join(self.rows[:5] + self.rows[6:]), 20)

    def test_a_row_too_many(self):
        text = "\n".join(self.rows)
        self.refused(text + "\n", 21)
        self.refused(text + "\n\n", 21)
        self.refused(text + "\n" + self.rows[20], 21)
        self.refused(text + "\n" + text, 21)
        self.refused("\n" + text, 0)
        self.refused("\n".join([self.rows[0], *self.rows]), 1)

    def test_empty_rows_and_blanks_in_each(self):
        for at, row in enumerate(self.rows):
            self.wrong(at, "", " ", " " + row, row + " ", row + "\t", row.upper())
            if " " in row:
                self.wrong(at, row.replace(" ", "  ", 1), row.replace(" ", "", 1), row.replace(" ", "\t", 1))
                for blank in range(row.count(" ")):
                    parts = row.split(" ")
                    self.wrong(at, " ".join(parts[:blank + 1]) + "  " + " ".join(parts[blank + 1:]))
            self.right(at, row)

    def test_rows_in_another_order(self):
        for at in range(5):
            rows = list(self.rows)
            rows[at], rows[at + 1] = rows[at + 1], rows[at]
            self.refused("\n".join(rows), at)

    def test_row_0(self):
        self.wrong(
            0, "width 8", "width 16 place 7", "width 16 place 7 done", "width 16 place 7 done 12 5",
            "width 16 place 7 done 12 sent", "width 16 done 12 place 7", "place 7 width 16 done 12",
            "Width 16 place 7 done 12", "16 7 12", "width place done", "width 16 place 7 count 12",
            "width 0 place 7 done 12", "width 15 place 7 done 12", "width 24 place 7 done 12", "width 64 place 7 done 12",
            "width 016 place 7 done 12", "width 1x place 7 done 12", "width -16 place 7 done 12",
            "width +16 place 7 done 12", "width 16. place 7 done 12", "width 1_6 place 7 done 12",
            "width 16 place 256 done 12", "width 16 place -1 done 12", "width 16 place 07 done 12",
            "width 16 place  done 12", "width 16 place x done 12", "width 16 place 7 done -1", "width 16 place 7 done -0",
            "width 16 place 7 done 012", "width 16 place 7 done 00", "width 16 place 7 done x", "width 16 place 7 done ",
            "width 16 place 7 done 1000000000000000", "width 16 place 7 done 9999999999999999",
            "width 16 place 7 done " + "9" * 5000, "width 16 place 7 done 1e3",
        )
        self.right(
            0, "width 16 place 0 done 0", "width 16 place 255 done 1", "width 32 place 7 done 12",
            "width 16 place 7 done 999999999999999", "width 16 place 7 done 100000000000000",
        )

    def test_counts_of_fifteen_figures_go_on(self):
        guest = counted(8, 999999999999997)
        guest.floor[:4] = [104, 104, 104, 0]
        self.assertEqual(run_plain(guest, 999999999999999), "bell")
        again = read_kept(kept(guest))
        self.assertEqual(again.done, 999999999999999)
        self.assertEqual((step(guest), step(again)), ("on", "on"))
        self.assertEqual(guest.stand(), again.stand())
        self.refused(kept(guest), 0)

    def test_row_1(self):
        self.wrong(
            1, "boxes", "boxes none", "boxes 0 1 2 3 4 5 6", "boxes 0 1 2 3 4 5 6 7 8", "box 0 1 2 3 4 5 6 7",
            "boxes 0 1 2 3 4 5 6 65536", "boxes 65536 1 2 3 4 5 6 7", "boxes -1 1 2 3 4 5 6 7", "boxes 00 1 2 3 4 5 6 7",
            "boxes 0 01 2 3 4 5 6 7", "boxes 0 1 2 3 4 5 6 x", "boxes 0 1 2 3 4 5 6 ", "boxes 0 1 2 3 4 5 6 0x7",
            "0 1 2 3 4 5 6 7 8", "boxes 0 1 2 3 4 5 6 " + "9" * 5000,
        )
        self.right(1, "boxes 65535 65535 0 0 10 100 1000 10000")

    def test_row_2(self):
        self.wrong(
            2, "marks", "marks none", "marks 0 0 0", "marks 0 0 0 0 0", "marks 0 0 0 2", "marks 2 0 0 0", "marks 0 -1 0 0",
            "marks 0 0 00 0", "marks 01 0 0 0", "mark 0 0 0 0", "marks 0 0 0 x", "marks 0000", "marks True 0 0 0",
        )
        self.right(2, *["marks " + " ".join(map(str, marks)) for marks in ALL_MARKS])

    def test_row_3(self):
        self.wrong(
            3, "wards", "wards ", "ward 1", "wards 16", "wards -1", "wards 1 16", "wards 2 1", "wards 1 1", "wards 1 3 2",
            "wards 1 2 2", "wards 01", "wards 1 02", "wards none 1", "wards 1 none", "wards None", "wards none none",
            "wards x", "wards 10 9", "wards " + " ".join(map(str, range(17))), "none", "wards 0 " * 2,
        )
        self.right(3, "wards none", "wards 0", "wards 15", "wards 9 10", "wards " + " ".join(map(str, range(16))))

    def test_row_4(self):
        self.wrong(
            4, "sent", "sent ", "send 1", "sent 65536", "sent 1 65536", "sent 65536 1", "sent -1", "sent 01", "sent 1 00",
            "sent none 1", "sent 1 none", "sent none none", "sent None", "sent x", "none", "sent 1, 2",
            "sent " + " ".join(["7"] * 2001), "sent " + " ".join(["7"] * 3000), "sent " + "1" * 5000,
        )
        self.right(4, "sent none", "sent 0", "sent 65535", "sent 0 0 0", "sent 5 4 3 4 5",
                   "sent " + " ".join(["7"] * 2000), "sent " + " ".join(["65535"] * 1999))

    def test_numbers_by_the_width_of_row_0(self):
        for width in WIDTHS:
            rows = kept(Guest(width, [0] * 256)).split("\n")
            for number, is_right in ((GREATEST[width], True), (GREATEST[width] + 1, False), (10 ** 11, False)):
                for at, row in ((1, f"boxes 0 0 0 0 0 0 0 {number}"), (4, f"sent {number}")):
                    text = "\n".join(rows[:at] + [row] + rows[at + 1:])
                    if is_right:
                        self.assertEqual(kept(read_kept(text)), text)
                    else:
                        self.refused(text, at)

    def test_rows_of_bytes(self):
        for at in range(5, 21):
            self.wrong(
                at, "0" * 31, "0" * 33, "0" * 30, "0" * 34, "0" * 64, "A" * 32, "a" * 31 + "F", "B" + "0" * 31,
                "0" * 31 + "g", "g" + "0" * 31, "0" * 31 + "-", "0" * 16 + " " + "0" * 15, " ".join(["00"] * 16),
                "0" * 31 + "x", "0x" + "0" * 30, "none", "bytes " + "0" * 32,
            )
            self.right(at, "0" * 32, "f" * 32, "0123456789abcdef" * 2, "fedcba9876543210" * 2)

    def test_each_byte_in_its_place(self):
        floor = [(7 * address + 3) % 256 for address in range(256)]
        self.assertEqual(read_kept(kept(Guest(8, floor))).floor, floor)

    def test_of_several_the_least(self):
        wrong = ["width 9 place 0 done 0", "boxes", "marks", "wards", "sent"] + ["x"] * 16
        for one, other in itertools.combinations(range(21), 2):
            rows = list(self.rows)
            rows[one], rows[other] = wrong[one], wrong[other]
            self.refused("\n".join(rows), one)
            self.refused("\n".join(rows) + "\n", one)
            self.refused("\n".join(rows[:other]), one)
        for at in range(21):
            rows = list(self.rows)
            rows[at] = wrong[at]
            self.refused("\n".join(rows + ["more"]), at)
            for many in range(at + 1, 21):
                self.refused("\n".join(rows[:many]), at)
        self.refused("\n".join(wrong), 0)

    def test_a_text_is_read_alike_each_time(self):
        text = "\n".join(self.rows)
        for turn in range(3):
            self.assertEqual(all_of(read_kept(text)), all_of(self.guest))
            self.refused(text + "\n", 21)


if __name__ == "__main__":
    unittest.main()
