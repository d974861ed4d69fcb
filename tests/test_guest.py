"""Stage 3, [3.1] to [3.3], and [0.2]: what makes a guest, its record, its stand and its twin."""

import itertools
import unittest

from hostturn.errors import BadGuest, HostError
from hostturn.guest import Guest
from hostturn.plain import run_plain, step
from samples import ALL_MARKS, GREATEST, WIDTHS, Whole, floor_of, is_whole

FLOOR = [0] * 256
# What is neither a number nor a list nor a tuple that could stand anywhere, but for None.
ODD = ("", "0", "8", 1.0, 8.0, b"\0", {}, {0: 0}, {0}, object(), int, list)


class Maker(Whole):
    def check_refused(self, *parts, **named):
        with self.assertRaises(HostError, msg=(parts, named)) as caught:
            Guest(*parts, **named)
        self.assertIs(caught.exception.__class__, BadGuest)


class Left(Maker):
    """What a guest has at first, where parts are left out."""

    def test_left_out_or_none(self):
        for width in WIDTHS:
            for guest in (
                Guest(width, FLOOR), Guest(width, FLOOR, None, None, None),
                Guest(width, FLOOR, None, None, None, 0),
                Guest(width=width, floor=FLOOR, boxes=None, marks=None, wards=None, place=0),
            ):
                self.assertEqual(guest.stand(), ([0] * 8, (0, 0, 0, 0), FLOOR, 0, [], 0))
                self.assertEqual(guest.record, ("bits", 0, 0, 0))
                self.assertEqual([guest.is_ward(address) for address in range(256)], [False] * 256)

    def test_each_part_alone(self):
        boxes = [1, 2, 3, 4, 5, 6, 7, 8]
        for width in WIDTHS:
            self.assertEqual(Guest(width, FLOOR, boxes=boxes).stand(), (boxes, (0,) * 4, FLOOR, 0, [], 0))
            self.assertEqual(Guest(width, FLOOR, marks=(0, 1, 1, 0)).stand()[1], (0, 1, 1, 0))
            self.assertEqual(Guest(width, FLOOR, place=9).stand(), ([0] * 8, (0,) * 4, FLOOR, 9, [], 0))
            self.assertTrue(Guest(width, FLOOR, wards=[2]).is_ward(32))

    def test_all_parts_in_their_order(self):
        floor = list(range(256))
        boxes = [8, 7, 6, 5, 4, 3, 2, 1]
        for width in WIDTHS:
            guest = Guest(width, floor, boxes, (1, 0, 1, 0), [15], 200)
            self.assertEqual(guest.stand(), (boxes, (1, 0, 1, 0), floor, 200, [], 0))
            self.assertEqual((guest.is_ward(239), guest.is_ward(240)), (False, True))

    def test_the_fields(self):
        guest = Guest(16, FLOOR, [1] * 8, (1, 1, 0, 0), [3], 77)
        self.assertWhole(guest.width, 16)
        self.assertEqual(guest.floor, FLOOR)
        self.assertEqual(guest.boxes, [1] * 8)
        self.assertEqual(guest.record, ("bits", 3, 0, 0))
        self.assertWhole(guest.place, 77)
        self.assertEqual(guest.sent, [])
        self.assertWhole(guest.done, 0)
        for field in (guest.floor, guest.boxes, guest.sent):
            self.assertIsInstance(field, list)


class Widths(Maker):
    def test_the_three(self):
        for width in WIDTHS:
            self.assertWhole(Guest(width, FLOOR).width, width)

    def test_others_are_refused(self):
        others = [number for number in range(-40, 70) if number not in WIDTHS]
        for width in others + [64, 128, 256, -8, 10 ** 30, True, False, None, [], [8], (8,), *ODD]:
            self.check_refused(width, FLOOR)


class Floors(Maker):
    def test_bytes_at_their_bounds(self):
        for width, place, byte in itertools.product(WIDTHS, (0, 1, 254, 255), (0, 1, 254, 255)):
            floor = [7] * 256
            floor[place] = byte
            self.assertEqual(Guest(width, floor).floor, floor)

    def test_bytes_beyond_them_and_of_other_kinds(self):
        for width, place in itertools.product(WIDTHS, (0, 128, 255)):
            for byte in (-1, 256, -256, 10 ** 20, True, False, None, [], [0], (0,), *ODD):
                floor = [0] * 256
                floor[place] = byte
                self.check_refused(width, floor)

    def test_another_length(self):
        for many in (0, 1, 255, 257, 512):
            self.check_refused(8, [0] * many)

    def test_no_list(self):
        for floor in (None, (0,) * 256, bytes(256), bytearray(256), "0" * 256, range(256), 0, 256, True,
                      dict.fromkeys(range(256), 0), iter([0] * 256), *ODD):
            self.check_refused(8, floor)

    def test_left_out_there_is_no_guest(self):
        self.assertRaises(TypeError, Guest, 8)
        self.check_refused(8, None)


class Boxes(Maker):
    def test_numbers_at_their_bounds(self):
        for width, box in itertools.product(WIDTHS, range(8)):
            for number in (0, 1, GREATEST[width] - 1, GREATEST[width]):
                boxes = [5] * 8
                boxes[box] = number
                self.assertEqual(Guest(width, FLOOR, boxes).boxes, boxes)

    def test_numbers_beyond_them_and_of_other_kinds(self):
        for width, box in itertools.product(WIDTHS, range(8)):
            for number in (-1, GREATEST[width] + 1, -GREATEST[width], 10 ** 20, True, False, None, [],
                           [0], (0,), *ODD):
                boxes = [0] * 8
                boxes[box] = number
                self.check_refused(width, FLOOR, boxes)

    def test_another_length(self):
        for width, many in itertools.product(WIDTHS, (0, 1, 7, 9, 16)):
            self.check_refused(width, FLOOR, [0] * many)

    def test_no_list(self):
        for boxes in ((0,) * 8, bytes(8), "0" * 8, range(8), 0, 8, True, False,
                      dict.fromkeys(range(8), 0), *ODD):
            self.check_refused(8, FLOOR, boxes)


class Marks(Maker):
    def test_all_sixteen(self):
        for width, marks in itertools.product(WIDTHS, ALL_MARKS):
            guest = Guest(width, FLOOR, marks=marks)
            self.assertMarks(guest.stand()[1], marks)

    def test_the_record_at_first(self):
        for width, marks in itertools.product(WIDTHS, ALL_MARKS):
            nought, sign, carry, over = marks
            record = Guest(width, FLOOR, marks=marks).record
            self.assertIsInstance(record, tuple)
            self.assertEqual(record, ("bits", nought + 2 * sign + 4 * carry + 8 * over, 0, 0))
            self.assertTrue(all(is_whole(number) for number in record[1:]))

    def test_the_record_written_out(self):
        for marks, n in (
            ((0, 0, 0, 0), 0), ((1, 0, 0, 0), 1), ((0, 1, 0, 0), 2), ((0, 0, 1, 0), 4),
            ((0, 0, 0, 1), 8), ((1, 0, 0, 1), 9), ((0, 1, 1, 0), 6), ((1, 1, 1, 1), 15),
        ):
            self.assertEqual(Guest(8, FLOOR, marks=marks).record, ("bits", n, 0, 0))

    def test_other_numbers_and_kinds(self):
        for place, mark in itertools.product(range(4), (-1, 2, 10, True, False, None, [], (0,), *ODD)):
            marks = [0] * 4
            marks[place] = mark
            self.check_refused(8, FLOOR, None, tuple(marks))

    def test_another_length(self):
        for many in (0, 1, 3, 5, 8):
            self.check_refused(8, FLOOR, None, (0,) * many)

    def test_no_tuple(self):
        for marks in ([0, 0, 0, 0], [], "0000", bytes(4), range(2), 0, 15, True, False, *ODD):
            self.check_refused(8, FLOOR, None, marks)


class Wards(Maker):
    def pages(self, guest):
        """The pages whose every address is a ward; none is a ward in part."""
        told = [guest.is_ward(address) for address in range(256)]
        self.assertTrue(all(answer is True or answer is False for answer in told))
        for page in range(16):
            self.assertEqual(len(set(told[16 * page:16 * page + 16])), 1)
        return [page for page in range(16) if told[16 * page]]

    def test_each_page(self):
        for width, page in itertools.product(WIDTHS, range(16)):
            self.assertEqual(self.pages(Guest(width, FLOOR, wards=[page])), [page])

    def test_in_any_order_and_twice(self):
        for wards, wanted in (
            ([], []), ([0, 15], [0, 15]), ([15, 0], [0, 15]), ([3, 3], [3]), ([7, 2, 7, 2, 2, 9], [2, 7, 9]),
            (list(range(16)), list(range(16))), (list(range(15, -1, -1)) * 20, list(range(16))),
        ):
            handed = list(wards)
            self.assertEqual(self.pages(Guest(8, FLOOR, wards=handed)), wanted)
            self.assertEqual(handed, wards)

    def test_beyond_the_floor_is_no_ward(self):
        guest = Guest(16, FLOOR, wards=list(range(16)))
        self.assertIs(guest.is_ward(255), True)
        for address in (256, 257, 271, 4096, 65535, -1, -16):
            self.assertIs(guest.is_ward(address), False)

    def test_other_numbers_and_kinds(self):
        for page in (-1, 16, 17, 255, 10 ** 20, True, False, None, [], [0], (0,), *ODD):
            for wards in ([page], [0, page], [page, 15], [1] * 50 + [page]):
                self.check_refused(8, FLOOR, None, None, wards)

    def test_no_list(self):
        for wards in ((), (0,), "", "0", bytes(1), range(3), 0, 5, True, False, *ODD):
            self.check_refused(8, FLOOR, None, None, wards)


class Places(Maker):
    def test_at_their_bounds(self):
        for width, place in itertools.product(WIDTHS, (0, 1, 128, 254, 255)):
            self.assertWhole(Guest(width, FLOOR, place=place).place, place)

    def test_beyond_them_and_of_other_kinds(self):
        for place in (-1, 256, 257, -255, 65535, 10 ** 20, True, False, None, [], [0], (0,), *ODD):
            self.check_refused(8, FLOOR, None, None, None, place)
            self.check_refused(8, FLOOR, place=place)


class Lists(unittest.TestCase):
    def test_lists_changed_behind_change_nothing(self):
        floor, boxes, wards = [1] * 256, [2] * 8, [3, 4]
        guest = Guest(8, floor, boxes, None, wards)
        wanted = ([2] * 8, (0,) * 4, [1] * 256, 0, [], 0)
        floor[0], boxes[0], wards[0] = 9, 9, 9
        self.assertEqual(guest.stand(), wanted)
        self.assertEqual((guest.is_ward(48), guest.is_ward(144)), (True, False))
        floor.clear(), boxes.clear(), wards.clear()
        self.assertEqual(guest.stand(), wanted)
        self.assertEqual((guest.is_ward(48), guest.is_ward(64)), (True, True))

    def test_what_the_guest_does_leaves_the_lists_handed_in(self):
        floor = floor_of(8, "more 0", "set 0 1 100", "send 0", "stop")
        boxes, wards = [0] * 8, [2, 1, 2]
        kept = (list(floor), list(boxes), list(wards))
        self.assertEqual(run_plain(Guest(8, floor, boxes, None, wards), 100), "stop")
        self.assertEqual((floor, boxes, wards), kept)

    def test_two_guests_of_the_same_lists_are_apart(self):
        floor, boxes = floor_of(8, "more 0", "set 0 1 100", "send 0"), [0] * 8
        first, second = Guest(8, floor, boxes), Guest(8, floor, boxes)
        run_plain(first, 3)
        self.assertEqual(second.stand(), (boxes, (0,) * 4, floor, 0, [], 0))
        third, fourth = Guest(8, floor), Guest(8, floor)
        run_plain(third, 3)
        self.assertEqual(fourth.stand(), ([0] * 8, (0,) * 4, floor, 0, [], 0))

    def test_what_is_refused_leaves_the_lists(self):
        floor, boxes, wards = [0] * 256, [0] * 8, [5, 5, 99]
        with self.assertRaises(BadGuest):
            Guest(8, floor, boxes, (0, 0, 0, 0), wards)
        self.assertEqual((floor, boxes, wards), ([0] * 256, [0] * 8, [5, 5, 99]))

    def test_boxes_and_floor_changed_by_hand_count_from_then_on(self):
        guest = Guest(8, floor_of(8, "add 1 2", "stop"), [0] * 8)
        guest.boxes[1] = 200
        guest.boxes[2] = 100
        self.assertEqual(guest.stand()[0], [0, 200, 100, 0, 0, 0, 0, 0])
        self.assertEqual(step(guest), "on")
        self.assertEqual((guest.boxes[1], guest.record), (44, ("sum", 200, 100, 0)))
        guest.floor[2] = 161
        self.assertEqual(guest.stand()[2][2], 161)
        self.assertEqual(guest.twin().stand(), guest.stand())
        self.assertEqual((step(guest), guest.sent), ("on", [44]))


def moved_guest():
    """A guest that has done steps: with a record, a number sent, a count and wards."""
    floor = floor_of(16, "put 1 500", "addk 1 -1", "send 1", "set 1 2 90", "more 3", "stop")
    guest = Guest(16, floor, [1, 2, 3, 4, 5, 6, 7, 8], (0, 0, 1, 0), [9, 0], 0)
    run_plain(guest, 4)
    return guest


class Stand(Whole):
    def test_its_parts(self):
        guest = moved_guest()
        floor = floor_of(16, "put 1 500", "addk 1 -1", "send 1", "set 1 2 90", "more 3", "stop")
        floor[93] = 499 % 256
        stand = guest.stand()
        self.assertIsInstance(stand, tuple)
        self.assertEqual(stand, ([1, 499, 3, 4, 5, 6, 7, 8], (0, 0, 1, 0), floor, 9, [499], 4))
        self.assertEqual(guest.record, ("sum", 500, 65535, 0))
        for number in (stand[3], stand[5], *stand[0], *stand[2], *stand[4]):
            self.assertTrue(is_whole(number))

    def test_its_lists_are_new_each_time(self):
        guest = moved_guest()
        kept = guest.stand()
        for place in (0, 2, 4):
            self.assertIsInstance(kept[place], list)
            self.assertIsNot(kept[place], guest.stand()[place])
        told = guest.stand()
        told[0][0], told[2][0], told[4][0] = 77, 77, 77
        told[4].append(5), told[0].clear(), told[2].clear()
        self.assertEqual(guest.stand(), kept)

    def test_it_stays_when_the_guest_goes_on(self):
        guest = moved_guest()
        told = guest.stand()
        kept = (list(told[0]), told[1], list(told[2]), told[3], list(told[4]), told[5])
        step(guest)
        guest.boxes[0] = 99
        guest.floor[0] = 99
        self.assertEqual(told, kept)

    def test_marks_are_reckoned_from_the_record(self):
        for width in WIDTHS:
            half = 2 ** (width - 1)
            for text, boxes, marks in (
                ("add 0 1", [half, half], (1, 0, 1, 1)), ("cmp 0 1", [1, 2], (0, 1, 1, 0)),
                ("and 0 1", [half, half], (0, 1, 0, 0)), ("left 0", [half], (1, 0, 1, 0)),
                ("right 0", [1], (1, 0, 1, 0)), ("more 0", [half - 1], (0, 1, 1, 1)),
                ("fewer 0", [1], (1, 0, 1, 0)), ("copy 0 1", [1, 2], (0, 0, 1, 0)),
            ):
                guest = Guest(width, floor_of(width, text), (boxes + [0] * 8)[:8], (0, 0, 1, 0))
                self.assertEqual(step(guest), "on")
                self.assertMarks(guest.stand()[1], marks)


class Twin(unittest.TestCase):
    def pages(self, guest):
        return [page for page in range(16) if guest.is_ward(16 * page)]

    def test_it_stands_alike(self):
        for guest in (moved_guest(), Guest(8, FLOOR), Guest(32, FLOOR, None, (1, 1, 1, 1), [15], 255)):
            twin = guest.twin()
            self.assertIsInstance(twin, Guest)
            self.assertIsNot(twin, guest)
            self.assertEqual(twin.stand(), guest.stand())
            self.assertEqual((twin.width, twin.record), (guest.width, guest.record))
            self.assertEqual((twin.place, twin.sent, twin.done), (guest.place, guest.sent, guest.done))
            self.assertEqual(self.pages(twin), self.pages(guest))

    def test_what_is_done_to_one_does_not_touch_the_other(self):
        for turned in (False, True):
            guest = moved_guest()
            one, other = (guest.twin(), guest) if turned else (guest, guest.twin())
            kept, record, pages = other.stand(), other.record, self.pages(other)
            one.boxes[0], one.floor[200] = 77, 77
            step(one)
            one.floor[10] = 160
            step(one)
            self.assertEqual((one.sent, one.done), ([499, 77], 6))
            self.assertEqual((other.stand(), other.record), (kept, record))
            self.assertEqual(self.pages(other), pages)

    def test_both_go_on_alike(self):
        guest = moved_guest()
        twin = guest.twin()
        for turn in range(3):
            self.assertEqual(step(twin), step(guest))
            self.assertEqual((twin.stand(), twin.record), (guest.stand(), guest.record))

    def test_a_twin_is_new_each_time(self):
        guest = moved_guest()
        first = guest.twin()
        first.boxes[0] = 77
        self.assertEqual(guest.twin().stand(), guest.stand())
        self.assertIsNot(guest.twin(), guest.twin())

    def test_a_twins_twin(self):
        guest = moved_guest()
        self.assertEqual(guest.twin().twin().stand(), guest.stand())


if __name__ == "__main__":
    unittest.main()
