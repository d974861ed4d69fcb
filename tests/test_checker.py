"""Stage 6, [6.4] and [6.5], and [0.2], [0.3]: which rows are shown for a code, and which are not."""

import itertools
import random
import unittest

from hostturn.checker import shown
from hostturn.guest import Guest
from hostturn.house import check_rows
from hostturn.plainrows import plain_rows
from hostturn.words import KINDS
from samples import (
    CODES, FORMS, LAST_WORDS, ROW_FORMS, ROW_PARTS, WIDTHS, WRITING, choices, code_of, comes_out, drawn_filler,
    drawn_guest, drawn_text, drawn_texts, drawn_watch, edges, floor_with, greatest, is_whole, with_fillers,
)


class Checker(unittest.TestCase):
    def told(self, width, place, code, rows):
        """What is told, twice; what is handed in stays."""
        kept = list(code), list(rows)
        told = shown(width, place, code, rows)
        self.assertIs(shown(width, place, list(code), list(rows)), told)
        self.assertEqual((code, rows), kept)
        self.assertIn(told, (True, False))
        self.assertIsInstance(told, bool)
        return told

    def is_shown(self, width, place, texts, rows):
        self.assertTrue(self.told(width, place, code_of(width, *texts), rows), (width, place, texts, rows))

    def is_not_shown(self, width, place, texts, rows):
        self.assertFalse(self.told(width, place, code_of(width, *texts), rows), (width, place, texts, rows))

    def finds_out(self, width, place, texts, rows, seed=0, turns=400):
        """At some drawn guest the rows come out otherwise; so they aren't shown."""
        draw = random.Random(seed)
        code = code_of(width, *texts)
        for turn in range(turns):
            guest, watch = drawn_guest(draw, width, code, place), drawn_watch(draw, code, place)
            if not comes_out(rows, len(texts), guest, watch):
                self.is_not_shown(width, place, texts, rows)
                return
        self.fail(f"these rows come out alike: {width} {place} {texts} {rows}")

    def holds(self, draw, width, place, texts, rows, turns=25):
        """Where rows are told as shown they come out as the plain steps, from many drawn guests."""
        code = code_of(width, *texts)
        if not self.told(width, place, code, rows):
            return False
        for turn in range(turns):
            guest, watch = drawn_guest(draw, width, code, place), drawn_watch(draw, code, place)
            self.assertTrue(comes_out(rows, len(texts), guest, watch), (width, place, texts, rows, guest.stand()))
        return True


class Plain(Checker):
    """The plain rows of each right code are shown."""

    def check(self, draw, width, place, texts):
        rows = plain_rows(width, place, code_of(width, *texts))
        self.assertTrue(self.holds(draw, width, place, texts, rows, 4), (width, place, texts))

    def test_each_kind_alone(self):
        draw = random.Random(1)
        for width, (kind, word, form) in itertools.product(WIDTHS, FORMS):
            for numbers in itertools.product(*(choices(sort, width)[::3] for sort in form)):
                text = " ".join([word, *map(str, numbers)])
                room = 256 - len(code_of(width, text))
                for place in (0, 100, room):
                    self.check(draw, width, place, [text])

    def test_one_box_twice(self):
        draw = random.Random(2)
        for width, (kind, word, form) in itertools.product(WIDTHS, FORMS):
            if "s" in form:
                for box in range(8):
                    self.check(draw, width, 7, [" ".join([word, *[str(box)] * len(form)])])

    def test_each_pair_of_kinds(self):
        draw = random.Random(3)
        for width, first, second in itertools.product(WIDTHS, FORMS, FORMS):
            if first[1] not in LAST_WORDS:
                texts = [" ".join([form[1], *[str(draw.randrange(3)) for sort in form[2]]])
                         for form in (first, second)]
                self.check(draw, width, 50, texts)

    def test_twelve_of_a_kind(self):
        draw = random.Random(4)
        for width, (kind, word, form) in itertools.product(WIDTHS, FORMS):
            if word not in LAST_WORDS:
                for last in (None, "stop", "jumpif 4 -100", "jump 99", "go 1"):
                    texts = [" ".join([word, *[str(draw.randrange(3)) for sort in form]]) for turn in range(12)]
                    self.check(draw, width, 0, texts[:11] + [last or texts[11]])

    def test_drawn_codes(self):
        draw = random.Random(5)
        for turn in range(1200):
            width = draw.choice(WIDTHS)
            texts = drawn_texts(draw, width, draw.randrange(1, 13))
            room = 256 - len(code_of(width, *texts))
            self.check(draw, width, draw.choice((0, room, draw.randrange(room + 1))), texts)

    def test_the_codes_of_this_file(self):
        draw = random.Random(6)
        for width, (place, texts) in itertools.product(WIDTHS, CODES):
            self.check(draw, width, place, texts)


class PutIn(Checker):
    """So they are with rows put in that write boxes for which none of the first rows asks."""

    def test_drawn_codes(self):
        draw = random.Random(11)
        for turn in range(800):
            width = draw.choice(WIDTHS)
            texts = drawn_texts(draw, width, draw.randrange(1, 13))
            place = draw.randrange(257 - len(code_of(width, *texts)))
            rows = with_fillers(draw, width, plain_rows(width, place, code_of(width, *texts)), draw.randrange(1, 21))
            self.assertTrue(self.holds(draw, width, place, texts, rows, 3), (width, place, texts, rows))

    def test_twenty_at_each_place(self):
        draw = random.Random(12)
        for width, (place, texts) in itertools.product(WIDTHS, CODES):
            plain = plain_rows(width, place, code_of(width, *texts))
            for at in range(len(plain)):
                rows = plain[:at] + [drawn_filler(draw, width, range(10, 15)) for turn in range(20)] + plain[at:]
                self.is_shown(width, place, texts, rows)

    def test_each_form_in_each_box(self):
        draw = random.Random(13)
        for width, word, box in itertools.product(WIDTHS, WRITING, range(10, 15)):
            parts = {"b": range(16), "K": edges(width), "a": range(8)}
            for turn in range(6):
                filler = (word, box) + tuple(draw.choice(parts[sort]) for sort in ROW_PARTS[word][1:])
                self.is_shown(width, 0, ["more 1", "send 1", "stop"], with_row(
                    plain_rows(width, 0, code_of(width, "more 1", "send 1", "stop")), turn, filler))

    def test_those_put_in_ask_each_others(self):
        for width in WIDTHS:
            texts = ["add 1 2", "addc 3 4", "get 5 6 7", "send 5", "jumpif 4 3"]
            plain = plain_rows(width, 0, code_of(width, *texts))
            fillers = [("mark", 10, 4), ("add", 11, 10, 1), ("add", 12, 11, 11), ("xor", 13, 12, 11), ("not", 14, 13)]
            rows = []
            for row in plain:
                rows += (fillers * 4)[len(rows) // 2 % 5:][:1] + [row]
            self.is_shown(width, 0, texts, rows)
            self.is_shown(width, 0, texts, fillers * 4 + plain)
            self.is_shown(width, 0, texts, plain[:-1] + fillers * 4 + plain[-1:])

    def test_twelve_steps_of_four_rows_and_twenty_more(self):
        draw = random.Random(14)
        for width, word in itertools.product(WIDTHS, ("addc 1 2", "subc 3 3", "more 1", "fewer 1")):
            rows = plain_rows(width, 0, code_of(width, *[word] * 12))
            self.assertEqual(len(rows), 49)
            self.is_shown(width, 0, [word] * 12, with_fillers(draw, width, rows, 20))


def with_row(rows, at, row):
    """The rows with one put in, never behind the last one."""
    at = min(at, len(rows) - 1)
    return rows[:at] + [row] + rows[at:]


def changed_rows(width, rows, numbers):
    """The rows with one part of one row changed in each way: other boxes, asks, kinds, numbers, places."""
    for at, row in enumerate(rows):
        for place, sort in enumerate(ROW_PARTS[row[0]], 1):
            if sort == "k":
                parts = KINDS
            elif sort in "ba":
                parts = range(greatest(sort, width) + 1)
            elif sort == "n":
                parts = (0, row[place] - 1, row[place] + 1, 99)
            else:
                parts = (*numbers, row[place] - 1, row[place] + 1)
            for part in parts:
                if part != row[place] and (sort == "k" or 0 <= part <= greatest(sort, width)):
                    yield rows[:at] + [row[:place] + (part,) + row[place + 1:]] + rows[at + 1:]


class Changed(Checker):
    """Rows that come out otherwise at some guest and watch are not shown."""

    def each(self):
        for width, (place, texts) in itertools.product(WIDTHS, CODES):
            yield width, place, texts, plain_rows(width, place, code_of(width, *texts))

    def test_one_part_of_one_row(self):
        draw = random.Random(21)
        for width, place, texts, plain in self.each():
            for rows in changed_rows(width, plain, (0, 1, 255, place)):
                self.holds(draw, width, place, texts, rows, 15)

    def test_another_word_of_one_row(self):
        draw = random.Random(22)
        for width, place, texts, plain in self.each():
            for at, row in enumerate(plain):
                for word, form in ROW_FORMS:
                    if word != row[0] and form == ROW_PARTS[row[0]]:
                        rows = plain[:at] + [(word,) + row[1:]] + plain[at + 1:]
                        self.holds(draw, width, place, texts, rows, 15)

    def test_a_row_left_out_or_told_twice(self):
        draw = random.Random(23)
        for width, place, texts, plain in self.each():
            for at in range(len(plain) - 1):
                self.holds(draw, width, place, texts, plain[:at] + plain[at + 1:], 15)
                self.holds(draw, width, place, texts, plain[:at] + [plain[at]] + plain[at:], 15)

    def test_two_rows_in_another_order(self):
        draw = random.Random(24)
        for width, place, texts, plain in self.each():
            for one, other in itertools.combinations(range(len(plain) - 1), 2):
                rows = list(plain)
                rows[one], rows[other] = plain[other], plain[one]
                self.holds(draw, width, place, texts, rows, 15)

    def test_a_row_put_in_anywhere_that_writes_any_box(self):
        draw = random.Random(25)
        for width, place, texts, plain in self.each():
            for at in range(len(plain)):
                for turn in range(12):
                    rows = with_row(plain, at, drawn_filler(draw, width, range(16)))
                    self.holds(draw, width, place, texts, rows, 10)

    def drawn_change(self, draw, width, place, rows):
        """The rows with one part changed, with one left out, with two in another order, or one more."""
        at, sort = draw.randrange(len(rows)), draw.randrange(4)
        if sort == 0:
            return draw.choice(list(changed_rows(width, rows, (0, 1, place))))
        if sort == 1 and at < len(rows) - 1:
            return rows[:at] + rows[at + 1:]
        if sort == 2 and 0 < at < len(rows) - 1:
            return rows[:at - 1] + [rows[at], rows[at - 1]] + rows[at + 1:]
        return with_row(rows, at, drawn_filler(draw, width, (0, 1, 8, 9, 10, 15)))

    def test_drawn_changes_of_drawn_codes(self):
        draw = random.Random(26)
        for turn in range(3000):
            width = draw.choice(WIDTHS)
            texts = drawn_texts(draw, width, draw.randrange(1, 6))
            place = draw.randrange(257 - len(code_of(width, *texts)))
            rows = plain_rows(width, place, code_of(width, *texts))
            for change in range(draw.randrange(1, 4)):
                rows = self.drawn_change(draw, width, place, rows)
            self.holds(draw, width, place, texts, rows, 10)

    def test_the_rows_of_another_code(self):
        draw = random.Random(27)
        for width in WIDTHS:
            for turn in range(300):
                texts, other = [drawn_texts(draw, width, draw.randrange(1, 4)) for part in range(2)]
                rows = plain_rows(width, 9, code_of(width, *other))
                self.holds(draw, width, 9, texts, rows, 10)
                kind = texts[0].split(" ")[0]
                like = [drawn_text(draw, width, kind in LAST_WORDS) for part in range(20)]
                for text in like:
                    if text.split(" ")[0] == kind and len(texts) == 1:
                        self.holds(draw, width, 9, texts, plain_rows(width, 9, code_of(width, text)), 10)


class Otherwise(Checker):
    """Changes that are sure to come out otherwise; each is found out at a drawn guest."""

    def check(self, width, place, texts, change):
        """Plain rows with these changed: a dict from a row's number to the rows in its place."""
        plain = plain_rows(width, place, code_of(width, *texts))
        rows = [row for at, ahead in enumerate(plain) for row in change.get(at, [ahead])]
        self.assertIsNone(check_rows(width, rows))
        self.is_shown(width, place, texts, plain)
        self.finds_out(width, place, texts, rows)

    def test_a_record_of_other_numbers_or_of_another_kind(self):
        for width in WIDTHS:
            for row in (("keep", "less", 1, 2, 15), ("keep", "sum", 2, 3, 15), ("keep", "sum", 1, 15, 15),
                        ("keep", "logic", 1, 2, 15), ("keep", "sum", 1, 2, 1), ("keep", "bits", 1, 2, 15)):
                self.check(width, 0, ["add 1 2"], {0: [row]})
                self.check(width, 0, ["add 1 2", "mark 1 4"], {0: [row]})
            self.check(width, 0, ["add 1 2"], {0: []})
            self.check(width, 0, ["more 1"], {1: [("keep", "more", 1, 15, 15)]})
            self.check(width, 0, ["more 1"], {1: [("keep", "fewer", 1, 15, 8)]})
            self.check(width, 0, ["left 1"], {0: [("keep", "right", 1, 15, 15)]})
            self.check(width, 0, ["left 1"], {0: [("left", 1, 1)], 1: [("keep", "left", 1, 15, 15)]})
            self.check(width, 0, ["xor 1 2"], {0: [("keep", "logic", 1, 15, 15)], 1: [("xor", 1, 1, 2)]})

    def test_a_known_record_with_one_other_mark(self):
        for width in WIDTHS:
            # The marks of 1 and 1 are all 0; a record of bits tells each of them alone.
            for bits in (1, 2, 4, 8, 15):
                self.check(width, 0, ["put 1 1", "and 1 1"], {2: [("put", 8, bits), ("keep", "bits", 8, 15, 15)]})
                self.check(width, 0, ["put 1 1", "and 1 1", "set 2 3 4", "cmp 4 5"], {
                    2: [("put", 8, bits), ("keep", "bits", 8, 15, 15)]})

    def test_known_numbers_that_are_others(self):
        for width in WIDTHS:
            for number in (0, 4, 6, 255):
                self.check(width, 0, ["put 1 5", "copy 2 1"], {1: [("put", 2, number)]})
                self.check(width, 0, ["put 2 5", "send 2"], {1: [("put", 8, number), ("copy", 9, 8), ("send", 9)]})
            for number in (6, 5, 3, 7, 9):
                at = 1 + width // 8
                self.check(width, 0, ["put 1 5", "get 2 1 3"], {1: [("get", 2, 15, number, 1, at)]})
                self.check(width, 0, ["put 1 200", "set 2 1 3"], {1: [("set", 15, 200 - number, 2, 1, at, at + 3)]})

    def test_a_record_that_another_one_hides_at_the_end_alone(self):
        for width in WIDTHS:
            # The record behind get counts: the get may be left there.
            self.check(width, 0, ["cmp 1 2", "set 3 4 0", "cmp 5 6"], {0: []})
            plain = plain_rows(width, 0, code_of(width, "cmp 1 2", "cmp 5 6"))
            self.holds(random.Random(0), width, 0, ["cmp 1 2", "cmp 5 6"], plain[1:])

    def test_an_upper_box_with_another_number_in_it(self):
        for width in WIDTHS:
            for box in range(8, 15):
                for number in (1, 2, 255):
                    self.check(width, 0, ["add 1 2"], {
                        0: [("put", box, number), ("keep", "sum", 1, 2, box)], 1: [("add", 1, 1, 2), ("add", 1, 1, box)]})
            self.check(width, 0, ["addk 1 5"], {0: []})
            self.check(width, 0, ["addk 1 5"], {0: [("put", 10, 5)]})
            self.check(width, 0, ["addk 1 5"], {0: [("put", 9, 4)]})
            self.check(width, 0, ["more 1"], {2: []})
            self.check(width, 0, ["addc 1 2"], {0: []})
            self.check(width, 0, ["addc 1 2"], {0: [("mark", 8, 5)]})
            self.check(width, 0, ["jumpif 2 9"], {0: [("mark", 8, 3)]})
            self.check(width, 0, ["jumpif 2 9"], {0: [("mark", 9, 2)]})
            self.check(width, 0, ["add 1 2"], {0: [("put", 15, 1), ("keep", "sum", 1, 2, 15)]})
            self.check(width, 0, ["more 1", "addk 1 5"], {4: []})

    def test_a_get_or_set_at_another_address(self):
        for width in WIDTHS:
            self.check(width, 9, ["get 1 2 3"], {0: [("get", 1, 2, 4, 0, 9)]})
            self.check(width, 9, ["get 1 2 3"], {0: [("get", 1, 3, 3, 0, 9)]})
            self.check(width, 9, ["get 1 2 3"], {0: [("get", 3, 2, 3, 0, 9)]})
            self.check(width, 9, ["set 1 2 3"], {0: [("set", 2, 4, 1, 0, 9, 12)]})
            self.check(width, 9, ["set 1 2 3"], {0: [("set", 1, 3, 1, 0, 9, 12)]})
            self.check(width, 9, ["set 1 2 3"], {0: [("set", 2, 3, 2, 0, 9, 12)]})
            self.check(width, 9, ["set 1 2 3"], {0: []})

    def test_a_get_or_set_with_another_count_or_place(self):
        for width in WIDTHS:
            for n, p, q in ((0, 10, 13), (2, 10, 13), (1, 9, 13), (1, 11, 13), (1, 10, 12), (1, 10, 14), (1, 10, 10)):
                self.check(width, 9, ["more 2", "set 1 2 3"], {4: [("set", 2, 3, 1, n, p, q)]})
            if width > 8:
                for n, p in ((0, 10), (2, 10), (1, 9), (1, 11), (99, 10)):
                    self.check(width, 9, ["more 2", "get 1 2 3"], {4: [("get", 1, 2, 3, n, p)]})
            # At the floor's end the next place is 0.
            self.check(width, 252, ["more 1", "set 1 2 3"], {4: [("set", 2, 3, 1, 1, 253, 255)]})

    def test_a_get_taken_from_ahead_of_a_set(self):
        for width in WIDTHS:
            for text in ("get 5 2 3", "get 5 4 0", "get 1 2 3"):
                plain = plain_rows(width, 0, code_of(width, "set 1 2 3", text))
                self.check(width, 0, ["set 1 2 3", text], {0: [plain[1]], 1: [plain[0]]})
            # Nor may what was read ahead of a set be handed on behind it.
            self.check(width, 0, ["get 5 2 0", "set 1 4 0", "get 6 2 0"], {2: [("copy", 6, 5)]})
            self.check(width, 0, ["set 1 2 3", "get 5 2 3"], {1: [("copy", 5, 1)]} if width > 8 else {1: []})
            self.check(width, 0, ["set 1 2 3", "set 4 5 6"], {
                0: [("set", 5, 6, 4, 0, 0, 3)], 1: [("set", 2, 3, 1, 1, 3, 6)]})

    def test_an_end_of_another_word_count_or_place(self):
        for width in WIDTHS:
            for row in (("leave", 2, 10), ("leave", 1, 9), ("leave", 1, 11), ("leave", 0, 10), ("stop", 1, 10),
                        ("stop", 0, 10), ("go", 1, 1), ("part", 1, 1, 10, 11), ("part", 15, 1, 10, 9),
                        ("go", 15, 1)):
                self.check(width, 9, ["not 1"], {1: [row]})
            for row in (("stop", 1, 10), ("stop", 0, 10), ("stop", 1, 9), ("leave", 1, 10), ("leave", 2, 11),
                        ("leave", 1, 9), ("stop", 2, 10), ("go", 1, 1)):
                if row != ("stop", 1, 10):
                    self.check(width, 9, ["not 1", "stop"], {1: [row]})
            for row in (("go", 2, 1), ("go", 1, 2), ("leave", 1, 9), ("stop", 1, 9)):
                self.check(width, 9, ["go 1"], {0: [row]})
            for row in (("part", 8, 1, 11, 16), ("part", 8, 1, 16, 16), ("part", 8, 2, 16, 11), ("leave", 1, 16),
                        ("leave", 1, 11), ("part", 9, 1, 16, 11), ("part", 8, 1, 16, 12), ("part", 8, 1, 17, 11)):
                self.check(width, 9, ["jumpif 3 5"], {1: [row]})
            for row in (("leave", 1, 15), ("leave", 1, 17), ("leave", 2, 16), ("leave", 1, 11), ("stop", 1, 16)):
                self.check(width, 9, ["jump 5"], {0: [row]})

    def test_sends_in_another_order_or_too_late(self):
        for width in WIDTHS:
            self.check(width, 0, ["send 1", "send 2"], {0: [("send", 2)], 1: [("send", 1)]})
            self.check(width, 0, ["send 1", "set 1 2 3"], {0: [], 1: [("set", 2, 3, 1, 1, 1, 4), ("send", 1)]})
            self.check(width, 0, ["set 1 2 3", "send 1"], {0: [("send", 1), ("set", 2, 3, 1, 0, 0, 3)], 1: []})
            self.check(width, 0, ["send 1"], {0: []})
            self.check(width, 0, ["send 1"], {0: [("send", 1), ("send", 1)]})
            self.check(width, 0, ["send 1", "not 1"], {0: [("not", 1, 1)], 1: [("send", 1)]})

    def test_boxes_that_are_written_too_late_or_too_early(self):
        for width in WIDTHS:
            self.check(width, 0, ["put 1 7", "set 3 2 0"], {0: [], 1: [("set", 2, 0, 3, 1, 1 + width // 8, 4 + width // 8),
                                                                       ("put", 1, 7)]})
            self.check(width, 0, ["set 3 2 0", "put 1 7"], {0: [("put", 1, 7), ("set", 2, 0, 3, 0, 0, 3)], 1: []})
            if width > 8:
                self.check(width, 0, ["put 1 7", "get 3 2 0"], {
                    0: [], 1: [("get", 3, 2, 0, 1, 1 + width // 8), ("put", 1, 7)]})

    def test_a_lower_box_used_on_the_way(self):
        for width in WIDTHS:
            self.check(width, 0, ["addk 1 5"], {0: [("put", 2, 5)], 1: [("keep", "sum", 1, 2, 15)],
                                                2: [("add", 1, 1, 2)]})
            self.check(width, 0, ["jumpif 3 5"], {0: [("mark", 4, 3)], 1: [("part", 4, 1, 7, 2)]})


class Never(Checker):
    def test_an_end_with_the_count_0(self):
        for width in WIDTHS:
            for texts in (["not 1"], ["jump 0"], ["jumpif 3 5"], ["go 1"], ["stop"], ["set 1 2 3"], ["get 1 2 3"],
                          ["put 1 1", "stop"], ["jump -2"]):
                plain = plain_rows(width, 0, code_of(width, *texts))
                for last in (("leave", 0, 0), ("leave", 0, 1), ("go", 1, 0), ("part", 8, 0, 7, 2), ("part", 8, 0, 0, 0)):
                    self.is_not_shown(width, 0, texts, plain[:-1] + [last])
                    self.is_not_shown(width, 0, texts, [last])

    def test_a_stop_with_the_count_0_may_be(self):
        for width in WIDTHS:
            self.is_shown(width, 9, ["stop"], [("stop", 0, 9)])

    def test_rows_that_are_not_right(self):
        for width in WIDTHS:
            texts = ["more 1", "get 2 3 4", "set 1 2 3", "stop"]
            plain = plain_rows(width, 0, code_of(width, *texts))
            self.is_shown(width, 0, texts, plain)
            self.is_not_shown(width, 0, texts, [])
            self.is_not_shown(width, 0, texts, plain[:-1])
            self.is_not_shown(width, 0, texts, plain + plain[-1:])
            self.is_not_shown(width, 0, texts, plain[-1:] + plain)
            self.is_not_shown(width, 0, texts, plain + [("put", 10, 1)])
            self.is_not_shown(width, 0, texts, [("put", 10, 1)] * (101 - len(plain)) + plain)
            self.is_not_shown(width, 0, texts, [list(row) for row in plain])
            for row in (("put", 10), ("put", 16, 1), ("put", 10, 2 ** width), ("put", 10, -1), ("put", 10, True),
                        ("copy", 10, None), ("nope", 10, 1), (), None, "put", ("mark", 10, 8), ("copy", 10, 1, 1),
                        ("keep", "add", 1, 1, 1), ("put", 10, 1.0)):
                self.is_not_shown(width, 0, texts, [row] + plain)
            for rows in (None, 0, "", "rows", (), tuple(plain), {}, dict(enumerate(plain)), 5, True):
                self.assertIs(shown(width, 0, code_of(width, *texts), rows), False)

    def test_a_hundred_rows(self):
        for width in WIDTHS:
            plain = plain_rows(width, 0, code_of(width, "more 1", "stop"))
            self.is_shown(width, 0, ["more 1", "stop"], [("put", 14, 1)] * 20 + plain)
            self.is_not_shown(width, 0, ["more 1", "stop"], [("put", 14, 1)] * (101 - len(plain)) + plain)

    def test_codes_that_are_not_right(self):
        for width in WIDTHS:
            rows = [("not", 1, 1), ("leave", 1, 1)]
            self.is_shown(width, 0, ["not 1"], rows)
            code = code_of(width, "not 1")
            for wrong in ([], code + [255], code + [25], [255], [25], [256], [-1], [True], [None], ["137"], code + [1],
                          [0] + code, code_of(width, "jump 0", "not 1"), [8] + [0] * (width // 8 - 1)):
                self.assertIs(shown(width, 0, wrong, rows), False)
            for wrong in (None, 137, "not 1", tuple(code), {0: 137}, {137}, bytes(code), True):
                self.assertIs(shown(width, 0, wrong, rows), False)
            for place in (256, 257, -1, -256):
                self.assertIs(shown(width, place, code, rows), False)
            self.is_shown(width, 255, ["not 1"], [("not", 1, 1), ("leave", 1, 0)])
            self.is_not_shown(width, 255, ["not 1"], [("not", 1, 1), ("leave", 1, 255)])
            for text in ("put 1 1", "add 1 1", "get 1 1 1"):
                code = code_of(width, text)
                rows = plain_rows(width, 256 - len(code), code)
                self.is_shown(width, 256 - len(code), [text], rows)
                self.assertIs(shown(width, 257 - len(code), code, rows), False)

    def test_neither_is_right(self):
        self.assertIs(shown(8, 0, [], []), False)
        self.assertIs(shown(8, 0, None, None), False)

    def test_the_same_rows_at_another_place(self):
        for width in WIDTHS:
            for texts in (["not 1"], ["jump 3"], ["stop"], ["jumpif 3 3"], ["set 1 2 3", "go 1"]):
                rows = plain_rows(width, 20, code_of(width, *texts))
                self.is_shown(width, 20, texts, rows)
                for place in (0, 19, 21, 200):
                    self.is_not_shown(width, place, texts, rows)

    def test_a_code_of_another_width(self):
        for one, other in itertools.permutations(WIDTHS, 2):
            rows = plain_rows(one, 0, code_of(one, "put 1 7", "stop"))
            self.assertIs(shown(one, 0, code_of(other, "put 1 7", "stop"), rows), False)


class Others(Checker):
    """Rows by another hand that do the same in other ways; where they are shown it holds."""

    def check(self, width, place, texts, rows):
        self.assertTrue(self.holds(random.Random(7), width, place, texts, rows, 60), (width, texts, rows))

    def test_what_is_known_put_in(self):
        for width in WIDTHS:
            size = 1 + width // 8
            self.check(width, 0, ["put 1 200", "put 2 100", "add 1 2", "jumpif 0 5"], [
                ("put", 2, 100), ("put", 8, 200), ("keep", "sum", 8, 2, 15), ("put", 1, 300 % 2 ** width),
                ("leave", 4, 2 * size + 4)])
            self.check(width, 0, ["xor 1 1", "jumpif 0 5"], [
                ("put", 1, 0), ("keep", "logic", 1, 15, 15), ("leave", 2, 9)])
            self.check(width, 0, ["put 1 77", "go 1"], [("put", 1, 77), ("leave", 2, 77)])
            self.check(width, 0, ["put 1 77", "go 1"], [("put", 1, 77), ("go", 1, 2)])
            self.check(width, 0, ["jumpif 4 0"], [("leave", 1, 2)])
        self.check(16, 0, ["put 1 513", "go 1"], [("put", 1, 513), ("leave", 2, 1)])

    def test_known_addresses(self):
        for width in WIDTHS:
            at = 1 + width // 8
            self.check(width, 0, ["put 1 5", "get 2 1 3"], [
                ("put", 1, 5), ("get", 2, 15, 8, 1, at), ("leave", 2, at + 3)])
            self.check(width, 0, ["put 1 5", "set 2 1 -3"], [
                ("put", 1, 5), ("set", 1, 2 ** width - 3, 2, 1, at, at + 3), ("leave", 2, at + 3)])
            self.check(width, 0, ["addk 1 5", "get 2 1 3"], [
                ("put", 9, 5), ("copy", 10, 1), ("keep", "sum", 1, 9, 15), ("add", 1, 1, 9), ("get", 2, 10, 8, 1, 2),
                ("leave", 2, 5)])

    def test_copies_of_what_is_known(self):
        for width in WIDTHS:
            at = 1 + width // 8
            self.check(width, 0, ["put 1 5", "copy 2 1"], [("put", 1, 5), ("put", 2, 5), ("leave", 2, at + 2)])
            self.check(width, 0, ["put 1 5"], [("put", 9, 5), ("copy", 1, 9), ("leave", 1, at)])

    def test_each_upper_box_is_0_at_the_begin(self):
        for width, box in itertools.product(WIDTHS, range(8, 16)):
            self.check(width, 0, ["add 1 2"], [("keep", "sum", 1, 2, box), ("add", 1, 1, 2), ("leave", 1, 2)])

    def test_a_record_written_otherwise(self):
        for width in WIDTHS:
            # The marks of 5 less 5 are nought alone: bit 0.
            self.check(width, 0, ["put 1 5", "cmp 1 1"], [
                ("put", 1, 5), ("put", 8, 1), ("keep", "bits", 8, 15, 15), ("leave", 2, 3 + width // 8)])
            self.check(width, 0, ["and 1 2"], [("and", 1, 2, 1), ("keep", "logic", 1, 7, 3), ("leave", 1, 2)])

    def test_rows_left_out_that_nobody_asks_for(self):
        for width in WIDTHS:
            self.check(width, 0, ["add 1 2", "cmp 3 4"], [
                ("add", 1, 1, 2), ("keep", "less", 3, 4, 15), ("leave", 2, 4)])
            self.check(width, 0, ["addk 1 5", "addk 1 -5", "cmp 1 2"], [("keep", "less", 1, 2, 15), ("leave", 3, 6)])

    def test_a_part_by_what_is_known(self):
        for width in WIDTHS:
            # Box 15 has 0, so a part by it leads to its last place.
            self.check(width, 0, ["not 1"], [("not", 1, 1), ("part", 15, 1, 99, 1)])
            self.check(width, 0, ["not 1"], [("not", 1, 1), ("put", 9, 2), ("part", 9, 1, 1, 99)])
            self.check(width, 0, ["not 1"], [("not", 1, 1), ("part", 3, 1, 1, 1)])
            self.check(width, 1, ["not 1"], [("not", 1, 1), ("put", 9, 2), ("go", 9, 1)])


class Handed(Checker):
    def test_the_lists_stay_and_the_same_is_told(self):
        for width, (place, texts) in itertools.product(WIDTHS, CODES):
            code = code_of(width, *texts)
            rows = plain_rows(width, place, code)
            wrong = rows[1:] if rows[0][0] != "send" else [("send", 5)] + rows
            for turn in range(3):
                self.assertTrue(self.told(width, place, code, rows))
                self.assertFalse(self.told(width, place, code, wrong))

    def test_from_a_record_of_each_kind(self):
        """A guest whose record is of another kind than bits, as steps leave it."""
        for width, kind in itertools.product(WIDTHS, KINDS):
            for place, texts in CODES:
                code = code_of(width, *texts)
                rows = plain_rows(width, place, code)
                for numbers in ((0, 0, 0), (2 ** width - 1, 1, 1), (2 ** (width - 1), 2 ** (width - 1), 2)):
                    guest = Guest(width, floor_with(code, place), [place, 1, 200, 3, 4, 5, 6, 255], None, [15], place)
                    guest.record = (kind, *numbers)
                    self.assertTrue(comes_out(rows, len(texts), guest, range(place, place + len(code)).__contains__))

    def test_numbers_told_are_whole(self):
        for width in WIDTHS:
            for row in plain_rows(width, 0, code_of(width, "fewer 1", "get 1 2 -3", "set 1 2 -3", "jumpif 1 -3")):
                self.assertTrue(all(is_whole(part) or part in KINDS for part in row[1:]))


if __name__ == "__main__":
    unittest.main()
