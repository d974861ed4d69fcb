"""Stage 9, [9.4] and [9.5], and [0.2]: the desk, each of its rows told and asked, and what it refuses."""

import itertools
import random
import unittest

from hostturn.codes import listing
from hostturn.desk import Desk
from hostturn.errors import HostError, NoRow
from hostturn.guest import Guest
from hostturn.keep import kept
from hostturn.plain import run_plain
from hostturn.turned import Turned
from samples import ALL_MARKS, FORMS, GREATEST, WIDTHS, code_of, drawn_program, edges, is_whole

NEW = "boxes 0 0 0 0 0 0 0 0 marks 0 0 0 0 place 0 done 0"

# Each form with the least and the greatest numbers that may stand there; K is the greatest number of the width.
RIGHT = (
    "poke 0 0", "poke 255 255", "poke 0 0 1 2 3", "poke 252 255 254 253 252", "poke 0" + " 17" * 256, "poke 100 9 10 99",
    "code 0 stop", "code 255 stop", "code 254 jump -128", "code 254 jump 127", "code 0 put 7 K; get 1 2 -128",
    "code 3 more 1; more 2; stop", "box 0 0", "box 7 K", "box 7 0", "box 0 K", "marks 0 0 0 0", "marks 1 1 1 1",
    "marks 1 0 1 0", "place 0", "place 255", "ward", "ward 0", "ward 15", "ward 15 0", "ward 3 3", "ward" + " 9" * 40,
    "shelf 1 1", "shelf 8 12", "shelf 1 12", "shelf 8 1", "again", "run 0", "run 2000", "plain 0", "plain 2000", "stand",
    "bytes 0 1", "bytes 255 1", "bytes 0 256", "bytes 1 255", "sent", "list 0 0", "list 0 256", "list 255 0",
    "list 255 256", "turned 0", "turned 255", "guest 8", "guest 16", "guest 32",
)

# None of these has a form of the list; those that hang on the width are told by K, one above its greatest number.
WRONG = (
    "", " ", "hello", "Stand", "STAND", "stand ", " stand", "stand stand", "stand 1", "sent 1", "sent none", "sent ",
    "again 1", "again ", " again", "again again", "none", "ok", "0", "stand\n", "stand\nstand", "\n", "stand;", "stand\t",
    "guest", "guest ", "guest 0", "guest 9", "guest 24", "guest 64", "guest 08", "guest -8", "guest +8", "guest 8 8",
    "guest 8 ", "guest  8", " guest 8", "guest x", "guest8", "guest 8.0", "guest 8\n", "Guest 8",
    "poke", "poke ", "poke 0", "poke 0 ", "poke  0 1", "poke 0  1", "poke 0 1 ", " poke 0 1", "poke 256 1", "poke -1 1",
    "poke 0 256", "poke 0 -1", "poke 0 1 256", "poke 0 256 1", "poke 255 1 2", "poke 254 1 2 3", "poke 0" + " 1" * 257,
    "poke 1" + " 1" * 256, "poke 00 1", "poke 0 01", "poke 0 1 02", "poke 0 x", "poke x 0", "poke 0 1,2", "poke 0 0x1",
    "poke 0 a", "poke 0 1 2 3 4 x",
    "code", "code ", "code 0", "code 0 ", "code stop", "code  0 stop", "code 0  stop", "code 0 stop ", " code 0 stop",
    "code 0 stop;", "code 0 stop; ", "code 0 ; stop", "code 0 stop;stop", "code 0 stop ; stop", "code 0 stop;  stop",
    "code 0 stop; ; stop", "code 0 more 1, more 2", "code 0 more 1 more 2", "code 256 stop", "code -1 stop", "code 00 stop",
    "code x stop", "code 255 jump 0", "code 255 more 1; more 1", "code 254 get 1 2 3", "code 0 nothing", "code 0 more 8",
    "code 0 more -1", "code 0 more 01", "code 0 jump 128", "code 0 jump -129", "code 0 jump -0", "code 0 put 1 K",
    "code 0 put 1 -1", "code 0 put 8 1", "code 0 put 1", "code 0 add 1 2 3", "code 0 stop 1", "code 0 more 1; more 8",
    "code 0 more 1; nothing", "code 0 Stop", "code 0 get 1 2", "code 0 jumpif 8 0", "code 0 mark 0 8", "code 0 more  1",
    "code 0 stop\n", "code 0\nstop", "code 200" + " more 1;" * 56 + " more 1",
    "box", "box 0", "box 8 0", "box -1 0", "box 0 -1", "box 0 K", "box 00 0", "box 0 00", "box 0 01", "box 0 0 0", "box 0 0 ",
    "box 0  0", "box  0 0", " box 0 0", "box x 0", "box 0 x", "box 0 ", "box 0 99999999999", "box 0 " + "9" * 5000,
    "marks", "marks 0 0 0", "marks 0 0 0 0 0", "marks 2 0 0 0", "marks 0 2 0 0", "marks 0 0 2 0",
    "marks 0 0 0 2", "marks 0 -1 0 0", "marks 0 0 00 0",
    "marks 01 0 0 0", "marks 0 0 0 ", "marks 0  0 0 0", " marks 0 0 0 0", "marks 0 0 0 x", "mark 0 0 0 0", "marks 0000",
    "place", "place ", "place 256", "place -1", "place 00", "place 01", "place 0 0", "place 0 ", "place  0", " place 0",
    "place x", "place 1000", "place +1", "place 1.", "place \n1",
    "ward ", "ward 16", "ward -1", "ward 01", "ward 0 16", "ward 16 0", "ward 0  1", "ward  0", "ward 0 ", " ward",
    "ward x", "ward none", "wards 1", "ward 1,2",
    "shelf", "shelf 1", "shelf 0 1", "shelf 1 0", "shelf 9 1", "shelf 1 13", "shelf -1 1", "shelf 1 -1", "shelf 01 1",
    "shelf 1 01", "shelf 1 1 1", "shelf 1 1 ", "shelf  1 1", "shelf 1  1", " shelf 1 1", "shelf x 1", "shelf 1 x",
    "run", "run ", "run 2001", "run -1", "run 00", "run 01", "run 1 1", "run 1 ", "run  1", " run 1", "run x", "run 99999",
    "run -0", "run 1\n", "run " + "9" * 5000,
    "plain", "plain ", "plain 2001", "plain -1", "plain 00", "plain 01", "plain 1 1", "plain 1 ", "plain  1", " plain 1",
    "plain x", "plain 100000",
    "bytes", "bytes 0", "bytes 0 0", "bytes 0 257", "bytes 1 256", "bytes 255 2", "bytes 256 1", "bytes -1 1", "bytes 0 -1",
    "bytes 00 1", "bytes 0 01", "bytes 0 1 1", "bytes 0 1 ", "bytes  0 1", "bytes 0  1", " bytes 0 1", "bytes x 1",
    "bytes 0 x", "bytes 256 0", "bytes 255 0",
    "list", "list 0", "list 256 1", "list -1 1", "list 0 -1", "list 0 257", "list 00 1", "list 0 01", "list 0 1 1",
    "list 0 1 ", "list  0 1", "list 0  1", " list 0 1", "list x 1", "list 0 x", "list 255 257",
    "turned", "turned ", "turned 256", "turned -1", "turned 00", "turned 01", "turned 0 0", "turned 0 ", "turned  0",
    " turned 0", "turned x", "lay 0", "shelf", "ties", "step", "kept", "wards", "turn 0", "stand run 5",
)
NO_TEXTS = (None, 0, 1, True, b"stand", ["stand"], ("stand",), {}, 1.5, object(), ["guest", "8"])


def wide(row, width, beyond=0):
    """The row with the greatest number of the width in the place of K, or one beyond it."""
    return row.replace("K", str(GREATEST[width] + beyond))


class DeskTest(unittest.TestCase):
    """A desk whose rows are counted."""

    def setUp(self):
        self.desk = Desk()
        self.count = 0

    def new(self, width=8, *rows):
        """Another desk with a guest of the width, told these rows."""
        self.setUp()
        self.ok(f"guest {width}", *rows)

    def says(self, row, wanted):
        told = self.desk.say(row)
        self.count += 1
        self.assertIsInstance(told, str)
        self.assertEqual(told, wanted, row)

    def ok(self, *rows):
        for row in rows:
            self.says(row, "ok")

    def ask(self, row):
        self.count += 1
        return self.desk.say(row)

    def within(self):
        """All that the desk has, its wards, shelf and ties among it."""
        held = self.desk.held
        return held and (kept(held.guest), held.guest.record, held.shelf(), held.ties(), held.bound, held.most)

    def guest(self):
        """What a guest is kept as, without asking the desk."""
        return kept(self.desk.held.guest)

    def told(self):
        """What the desk itself tells of its guest."""
        return [self.ask(row) for row in ("stand", "bytes 0 256", "sent", "list 0 256", "turned 0")]

    def refused(self, row):
        wanted = self.within()
        for turn in range(2):
            with self.assertRaises(HostError, msg=repr(row)) as caught:
                self.desk.say(row)
            self.assertIs(caught.exception.__class__, NoRow)
            self.assertEqual(caught.exception.at, self.count, repr(row))
            self.assertTrue(is_whole(caught.exception.at))
            self.assertEqual(self.within(), wanted, repr(row))


class Told(DeskTest):
    """[9.4]: rows that are answered with ok."""

    def test_a_new_guest(self):
        for width in WIDTHS:
            self.new(width)
            self.says("stand", NEW)
            self.says("bytes 0 256", " ".join(["0"] * 256))
            self.says("sent", "none")
            self.says("turned 0", "1")
            self.says("run 5", "stop 0")
            self.assertEqual(self.guest(), kept(Guest(width, [0] * 256)))

    def test_its_width(self):
        for width in WIDTHS:
            self.new(width, f"box 1 {GREATEST[width]}", "code 0 more 1; stop")
            self.says("run 9", "stop 1")
            self.says("stand", "boxes 0 0 0 0 0 0 0 0 marks 1 0 0 0 place 1 done 1")

    def test_a_guest_anew(self):
        self.new(8, "poke 9 1 2", "box 1 5", "marks 1 1 1 1", "ward 3", "shelf 2 3", "code 0 send 1; jump -3")
        self.ask("run 10")
        self.ok("guest 16")
        self.says("stand", NEW)
        self.says("bytes 0 256", " ".join(["0"] * 256))
        self.says("sent", "none")
        self.assertEqual(self.guest(), kept(Guest(16, [0] * 256)))
        # Its shelf has eight stretches of twelve steps again.
        self.ok("code 0 " + "; ".join(["more 1"] * 20))
        self.says("turned 0", "12")
        self.assertEqual(self.within()[2:], ([], [], 8, 12))

    def test_the_shelf_of_a_new_guest(self):
        self.new(8, "code 0 " + "; ".join(["jump 0"] * 30))
        self.says("run 20", "bell 20")
        self.assertEqual([held[0] for held in self.within()[2]], list(range(24, 40, 2)))

    def test_poke(self):
        self.new(8)
        floor = [0] * 256
        for start, told in ((0, [255]), (255, [9]), (10, [1, 2, 3]), (11, [4]), (250, [5, 6, 7, 8, 9, 10])):
            self.ok(f"poke {start} " + " ".join(map(str, told)))
            floor[start:start + len(told)] = told
            self.says("bytes 0 256", " ".join(map(str, floor)))
        self.ok("poke 0 " + " ".join(map(str, range(256))))
        self.says("bytes 0 256", " ".join(map(str, range(256))))

    def test_code(self):
        for width in WIDTHS:
            for number, (kind, word, form) in enumerate(FORMS):
                sorts = {"r": 7, "s": 5, "d": -3, "K": GREATEST[width]}
                text = " ".join([word, *[str(sorts[sort]) for sort in form]])
                code = code_of(width, text)
                for place in (0, 100, 256 - len(code)):
                    self.new(width, f"code {place} {text}")
                    self.says(f"bytes {place} {len(code)}", " ".join(map(str, code)))
                    self.assertEqual(sum(map(int, self.ask("bytes 0 256").split(" "))), sum(code))
            texts = ["put 1 5", "stop", "jumpif 3 -128", "get 3 5 -2", "more 1", "set 1 2 127"]
            code = code_of(width, *texts)
            self.new(width, f"code {256 - len(code)} " + "; ".join(texts))
            self.says(f"bytes {256 - len(code)} {len(code)}", " ".join(map(str, code)))

    def test_a_floor_full_of_steps(self):
        self.new(8, "code 0 " + "; ".join(["more 1"] * 256))
        self.says("bytes 0 256", " ".join(["105"] * 256))
        self.refused("code 0 " + "; ".join(["more 1"] * 257))
        self.refused("code 1 " + "; ".join(["more 1"] * 256))

    def test_box_marks_and_place(self):
        for width in WIDTHS:
            self.new(width)
            boxes = [0] * 8
            for box, number in enumerate(edges(width)[-8:]):
                self.ok(f"box {box} {number}")
                boxes[box] = number
                self.says("stand", "boxes " + " ".join(map(str, boxes)) + " marks 0 0 0 0 place 0 done 0")
            for marks, place in zip(ALL_MARKS, range(0, 256, 17)):
                four = " ".join(map(str, marks))
                self.ok(f"marks {four}", f"place {place}")
                self.says("stand", "boxes " + " ".join(map(str, boxes)) + f" marks {four} place {place} done 0")

    def test_marks_are_so_for_steps(self):
        self.new(8, "code 0 add 1 1; jump -4", "box 1 255")
        self.ask("run 2")
        self.ok("code 0 mark 2 0; mark 3 2; mark 4 4; mark 5 6; addc 1 1; stop", "box 1 0", "marks 0 1 1 1", "place 0")
        self.says("run 9", "stop 7")
        self.says("stand", "boxes 0 1 0 1 1 1 0 0 marks 0 0 0 0 place 10 done 7")

    def test_wards(self):
        for width, pages in itertools.product(WIDTHS, ([], [3], [3, 3], [15, 0], [0, 15, 0], list(range(16)))):
            for page in range(16):
                for verb in ("run", "plain"):
                    self.new(width, "poke 0 7", " ".join(["ward", *map(str, [1, 2])]),
                             " ".join(["ward", *map(str, pages)]), f"box 2 {16 * page + 9}", "code 100 set 1 2 5; stop",
                             "place 100")
                    self.says(f"{verb} 9", "ward 0" if page in pages else "stop 1")

    def test_shelf(self):
        for bound, most in itertools.product(range(1, 9), range(1, 13)):
            self.new(8, "code 0 " + "; ".join(["more 1"] * 200), f"shelf {bound} {most}")
            self.says("turned 0", str(most))
            self.says(f"run {most * 9}", f"bell {most * 9}")
            shelf = self.within()[2]
            self.assertEqual([held[0] for held in shelf], list(range(0, most * 9, most))[-bound:])
            self.assertEqual([len(held[1]) for held in shelf], [most] * bound)

    def begun(self, width):
        """A guest in the middle of its work, with stretches on its shelf, wards, and numbers sent."""
        self.new(width, "code 0 more 1; add 2 1; send 2; cmpk 1 3; jumpif 4 -8; set 1 3 99; jump -13", "ward 2 9 2",
                 "box 3 99", "shelf 5 7", "code 60 more 5; stop")
        self.says("run 20", "bell 20")
        self.assertNotEqual(self.within()[2], [])
        self.assertNotEqual(self.ask("sent"), "none")

    def test_each_empties_the_shelf_and_leaves_all_else(self):
        for width in WIDTHS:
            for row, change in (
                ("poke 40 1 2", lambda guest: guest.floor.__setitem__(slice(40, 42), [1, 2])),
                ("poke 0 105", None),
                ("code 60 more 5; stop", None),
                ("code 60 stop; more 3", lambda guest: guest.floor.__setitem__(slice(60, 62), [0, 107])),
                ("box 6 9", lambda guest: guest.boxes.__setitem__(6, 9)),
                ("box 6 0", None),
                ("marks 1 0 0 1", "marks"),
                ("place 60", lambda guest: setattr(guest, "place", 60)),
                ("ward 1 9", lambda guest: setattr(guest, "wards", [1, 9])),
                ("ward", lambda guest: setattr(guest, "wards", [])),
                ("ward 9 2", None),
                ("shelf 5 7", None),
                ("shelf 1 12", None),
                ("again", "again"),
            ):
                self.begun(width)
                wanted, record = self.desk.held.guest.twin(), self.desk.held.guest.record
                bounds = (1, 12) if row == "shelf 1 12" else (5, 7)
                if change == "marks":
                    wanted.record = ("bits", 9, 0, 0)
                elif change == "again":
                    wanted.record = ("bits", sum(mark << bit for bit, mark in enumerate(wanted.stand()[1])), 0, 0)
                elif change:
                    change(wanted)
                    self.assertEqual(wanted.record, record)
                self.ok(row)
                self.assertEqual(self.within(), (kept(wanted), wanted.record, [], [], *bounds), row)
                # And so it goes on, by either run.
                for verb in ("run", "plain"):
                    self.says(f"{verb} 60", f"{run_plain(wanted, 60)} {wanted.done}")
                    self.assertEqual(self.guest(), kept(wanted))

    def test_again(self):
        for width in WIDTHS:
            self.begun(width)
            wanted = self.told()
            for turn in range(3):
                self.ok("again")
                self.assertEqual(self.told(), wanted)
            self.assertEqual(self.within()[2:], ([], [], 5, 7))
            self.assertEqual(self.desk.held.guest.record[0], "bits")
            self.says("turned 0", "5")

    def test_again_with_two_thousand_numbers_sent(self):
        self.new(32, "code 0 " + "; ".join(["send 1"] * 256), "box 1 4294967295")
        self.says("run 2000", "bell 2000")
        self.says("sent", " ".join(["4294967295"] * 2000))
        self.ok("again")
        self.says("sent", " ".join(["4294967295"] * 2000))
        self.says("run 2000", "bell 2000")


class Asked(DeskTest):
    """[9.4]: rows that ask."""

    def test_run(self):
        for width in WIDTHS:
            self.new(width, "code 0 more 1; cmpk 1 3; jumpif 1 -5; stop")
            self.says("run 0", "bell 0")
            self.says("run 1", "bell 1")
            self.says("run 5", "bell 5")
            self.says("run 3", "bell 5")
            self.says("run 2000", "stop 9")
            self.says("run 10", "stop 9")
            self.says("run 9", "bell 9")
            self.says("stand", "boxes 0 3 0 0 0 0 0 0 marks 1 0 0 0 place 5 done 9")

    def test_each_word_of_a_run(self):
        for verb in ("run", "plain"):
            self.new(16, "code 0 more 1; get 1 2 0", "box 2 256")
            self.says(f"{verb} 9", "out 1")
            self.new(16, "code 0 more 1; set 1 2 0", "box 2 255", "ward 15")
            self.says(f"{verb} 9", "ward 1")
            self.new(16, "code 0 more 1; jump 100", "poke 103 255")
            self.says(f"{verb} 2", "bell 2")
            self.says(f"{verb} 3", "none 2")
            self.says(f"{verb} 2000", "none 2")
            self.new(16, "code 0 jump -2")
            self.says(f"{verb} 2000", "bell 2000")
            self.says(f"{verb} 0", "bell 2000")

    def test_run_is_the_turned_run(self):
        self.new(8, "code 0 more 1; jump -3", "shelf 3 2")
        self.says("run 6", "bell 6")
        self.assertEqual([held[:2] for held in self.within()[2]], [(0, code_of(8, "more 1", "jump -3"))])
        self.assertEqual(self.within()[3], [(0, 0)])
        # What is asked leaves the shelf as it is.
        shelf = self.within()
        for row in ("stand", "bytes 0 256", "sent", "list 0 9", "turned 3", "turned 0", "run 6", "run 0"):
            self.ask(row)
            self.assertEqual(self.within(), shelf)

    def test_plain_empties_the_shelf(self):
        for bell in (0, 6, 7, 20):
            self.new(8, "code 0 more 1; jump -3", "shelf 3 2")
            self.ask("run 6")
            self.says(f"plain {bell}", f"bell {max(bell, 6)}")
            self.assertEqual(self.within()[2:], ([], [], 3, 2))
        record = self.desk.held.guest.record
        self.assertEqual(record[0], "more")

    def test_bytes(self):
        self.new(8, "poke 0 " + " ".join(map(str, range(256))))
        for start, many in ((0, 1), (0, 256), (255, 1), (7, 3), (200, 56), (1, 255)):
            self.says(f"bytes {start} {many}", " ".join(map(str, range(start, start + many))))

    def test_sent(self):
        for width in WIDTHS:
            self.new(width, f"box 1 {GREATEST[width]}", "box 2 10", "code 0 send 1; send 0; send 2; stop")
            for done, sent in ((0, "none"), (1, f"{GREATEST[width]}"), (2, f"{GREATEST[width]} 0"),
                               (3, f"{GREATEST[width]} 0 10")):
                self.says(f"run {done}", f"bell {done}")
                self.says("sent", sent)

    def test_list(self):
        self.new(16, "poke 0" + " 255" * 256, "code 5 put 3 300; get 3 5 -2; jumpif 4 -7; stop")
        self.says("list 5 4", "5 put 3 300; 8 get 3 5 -2; 11 jumpif 4 -7; 13 stop")
        self.says("list 5 256", "5 put 3 300; 8 get 3 5 -2; 11 jumpif 4 -7; 13 stop")
        self.says("list 5 1", "5 put 3 300")
        self.says("list 13 9", "13 stop")
        for row in ("list 5 0", "list 0 256", "list 14 1", "list 255 1"):
            self.says(row, "none")
        self.new(8)
        self.says("list 254 256", "254 stop; 255 stop")
        self.says("list 0 256", "; ".join(f"{place} stop" for place in range(256)))

    def test_turned(self):
        self.new(8, "poke 0" + " 255" * 256, "code 3 " + "; ".join(["more 1"] * 14) + "; stop", "code 100 jump 0; stop")
        for place, wanted in ((0, "none"), (2, "none"), (3, "12"), (4, "12"), (5, "12"), (6, "12"), (7, "11"),
                              (17, "1"), (18, "none"), (100, "1"), (101, "1"), (102, "1"), (103, "none"), (255, "none")):
            self.says(f"turned {place}", wanted)
        for most in range(1, 13):
            self.ok(f"shelf 8 {most}")
            self.says("turned 3", str(most))
            self.says("turned 10", str(min(most, 8)))
        self.ok("poke 255 0", "poke 253 104 104 104")
        self.says("turned 253", "3")
        self.ok("poke 254 24")
        # An add whose second number would be 104 is no step, and one cut off by the floor's end neither.
        self.says("turned 254", "none")
        self.ok("poke 255 24")
        self.says("turned 255", "none")

    def test_each_row_at_each_width(self):
        floor = code_of(8, "more 1", "send 1", "set 1 2 90", "jump -7") + [0] * 249
        steps = ["0 more 1", "1 send 1", "2 set 1 2 90", "5 jump -7", *[f"{place} stop" for place in range(7, 256)]]
        wanted = {
            "run 0": "bell 0", "run 2000": "bell 2000", "plain 0": "bell 0", "plain 2000": "bell 2000", "stand": NEW,
            "bytes 0 1": "105", "bytes 255 1": "0", "bytes 0 256": " ".join(map(str, floor)),
            "bytes 1 255": " ".join(map(str, floor[1:])), "sent": "none", "list 0 0": "none", "list 255 0": "none",
            "list 0 256": "; ".join(steps), "list 255 256": "255 stop", "turned 0": "4", "turned 255": "1",
        }
        for width, row in itertools.product(WIDTHS, RIGHT):
            self.new(width, "code 0 more 1; send 1; set 1 2 90; jump -7")
            self.says(wide(row, width), wanted.get(row, "ok"))
        self.assertLessEqual(set(wanted), set(RIGHT))

    def test_drawn_guests_as_without_a_desk(self):
        draw = random.Random(94)
        for turn in range(40):
            width = draw.choice(WIDTHS)
            guest = drawn_program(draw, width)
            boxes, marks, floor, place, sent, done = guest.stand()
            self.new(width, "poke 0 " + " ".join(map(str, floor)), "marks " + " ".join(map(str, marks)),
                     f"place {place}", *[f"box {box} {number}" for box, number in enumerate(boxes)],
                     " ".join(["ward", *[str(page) for page in range(16) if guest.is_ward(16 * page)]]))
            self.assertEqual(self.guest(), kept(guest))
            for bell in range(0, 150, draw.randrange(1, 40)):
                verb = draw.choice(("run", "run", "plain"))
                if draw.randrange(3) == 0:
                    self.ok(draw.choice(("again", f"shelf {draw.randrange(1, 9)} {draw.randrange(1, 13)}")))
                self.says(f"{verb} {bell}", f"{run_plain(guest, bell)} {guest.done}")
                boxes, marks, floor, place, sent, done = guest.stand()
                self.says("stand", " ".join(map(str, ["boxes", *boxes, "marks", *marks, "place", place, "done", done])))
                self.says("bytes 0 256", " ".join(map(str, floor)))
                self.says("sent", " ".join(map(str, sent)) or "none")
                steps = [f"{at} {text}" for at, text in listing(width, floor, place, 20)]
                self.says(f"list {place} 20", "; ".join(steps) or "none")

    def test_two_desks_beside_one_another(self):
        one, other = Desk(), Desk()
        self.assertEqual(one.say("guest 8"), "ok")
        with self.assertRaises(NoRow) as caught:
            other.say("stand")
        self.assertEqual(caught.exception.at, 0)
        self.assertEqual(other.say("guest 16"), "ok")
        for row in ("code 0 more 1; send 1; jump -4", "box 1 255", "ward 3", "shelf 1 1", "run 5"):
            one.say(row)
        self.assertEqual(other.say("stand"), NEW)
        self.assertEqual(other.say("bytes 0 5"), "0 0 0 0 0")
        self.assertEqual(other.say("sent"), "none")
        self.assertEqual(other.say("code 0 more 1; stop"), "ok")
        self.assertEqual(other.say("turned 0"), "2")
        self.assertEqual(one.say("turned 0"), "1")
        self.assertEqual(other.say("run 9"), "stop 1")
        self.assertEqual(one.say("stand"), "boxes 0 1 0 0 0 0 0 0 marks 0 0 0 0 place 2 done 5")
        self.assertEqual(one.say("sent"), "0 1")
        for desk, count in ((one, 9), (other, 7)):
            with self.assertRaises(NoRow) as caught:
                desk.say("nothing")
            self.assertEqual(caught.exception.at, count)


class Refused(DeskTest):
    """[9.5]."""

    def test_each_row_ahead_of_a_guest(self):
        for row in (*RIGHT, *WRONG):
            if not row.startswith("guest "):
                self.refused(wide(row, 8))
        for row in WRONG:
            self.refused(row)
        for thing in NO_TEXTS:
            self.refused(thing)
        self.assertEqual(self.count, 0)
        self.ok("guest 8")
        self.refused("nothing")
        self.assertEqual(self.count, 1)

    def test_each_wrong_row(self):
        for width in WIDTHS:
            self.new(width, "code 0 more 1; send 1; set 1 2 90; jump -7", "ward 3 9", "box 5 7", "marks 1 0 1 1")
            self.ask("run 9")
            wanted = self.told()
            for row in WRONG:
                self.refused(wide(row, width, 1))
            for thing in NO_TEXTS:
                self.refused(thing)
            self.assertEqual(self.told(), wanted)
            # The wards, too, are as they were.
            self.ok("box 2 54")
            self.says("run 40", "ward 10")
            self.ok("box 2 53")
            self.says("run 40", "bell 40")

    def test_wards_stay_behind_a_refused_row(self):
        self.new(16, "ward 3", "code 0 set 1 2 0; stop", "box 2 50")
        for row in ("ward 16", "ward 1 x", "ward 0 ", "guest 9", "guest"):
            self.refused(row)
        self.says("run 9", "ward 0")
        self.ok("box 2 70")
        self.says("run 9", "stop 1")

    def test_each_form_with_a_word_too_few_and_too_many(self):
        for width, row in itertools.product(WIDTHS, RIGHT):
            self.new(width)
            words = wide(row, width).split(" ")
            if words[0] not in ("poke", "ward", "code"):
                self.refused(" ".join([*words, "0"]))
                self.refused(" ".join([*words, "1", "1"]))
                if len(words) > 1:
                    self.refused(" ".join(words[:-1]))
                    self.refused(words[0])
            self.refused(" ".join(words) + " ")
            self.refused(" " + " ".join(words))
            for at in range(1, min(len(words), 6)):
                self.refused(" ".join(words[:at]) + "  " + " ".join(words[at:]))
                self.refused(" ".join(words[:at] + ["x"] + words[at + 1:]))
                if words[at].isdigit():
                    self.refused(" ".join(words[:at] + ["0" + words[at]] + words[at + 1:]))
                    self.refused(" ".join(words[:at] + ["-" + words[at]] + words[at + 1:]) if words[0] != "code" else "")
                    self.refused(" ".join(words[:at] + ["+" + words[at]] + words[at + 1:]))
            self.refused(words[0].upper() + " " + " ".join(words[1:]))

    def test_none_is_done_in_part(self):
        self.new(8, "poke 0 1 2 3 4", "poke 253 5 6 7")
        for row in ("poke 0 9 9 9 256", "poke 253 9 9 9 9", "code 0 more 1; more 8", "code 253 more 1; jump 5; stop",
                    "code 0 more 1; more 2; ", "code 0 stop; put 1 256"):
            self.refused(row)
        self.says("bytes 0 4", "1 2 3 4")
        self.says("bytes 253 3", "5 6 7")

    def test_the_field_counts_what_was_answered(self):
        self.refused("stand")
        self.ok("guest 8")
        self.refused("guest 9")
        self.ok("guest 8")
        self.refused("run 2001")
        for turn in range(5):
            self.ask("stand")
            self.refused("stand ")
            self.refused(None)
        self.says("run 5", "stop 0")
        self.refused("")
        self.assertEqual(self.count, 8)
        self.ok("guest 16")
        self.refused("guest")
        self.assertEqual(self.count, 9)

    def test_a_run_that_is_told_a_fault_is_answered(self):
        self.new(8, "code 0 set 1 2 0", "ward 0")
        self.says("run 5", "ward 0")
        self.refused("run")


class Runs(DeskTest):
    def test_a_desk_by_rows_alone(self):
        """One desk from its first row to its last."""
        for row, wanted in (
            ("guest 16", "ok"),
            ("code 0 put 3 300; get 3 5 -2; stop", "ok"),
            ("bytes 0 7", "11 44 1 147 5 254 0"),
            ("box 5 3", "ok"),
            ("turned 0", "3"),
            ("run 1", "bell 1"),
            ("stand", "boxes 0 0 0 300 0 3 0 0 marks 0 0 0 0 place 3 done 1"),
            ("again", "ok"),
            ("run 2000", "stop 2"),
            ("stand", "boxes 0 0 0 44 0 3 0 0 marks 0 0 0 0 place 6 done 2"),
            ("code 6 send 3; jump -3", "ok"),
            ("plain 7", "bell 7"),
            ("sent", "44 44 44"),
            ("list 6 2", "6 send 3; 7 jump -3"),
        ):
            self.says(row, wanted)
        self.assertIsInstance(self.desk.held, Turned)


if __name__ == "__main__":
    unittest.main()
