"""Stage 7, [7.1] to [7.3], and [6.2], [6.5], [0.2], [0.3]: the turned rows of a code."""

import itertools
import random
import unittest

from hostturn.checker import shown
from hostturn.errors import HostError, NoCode
from hostturn.house import check_rows
from hostturn.plainrows import plain_rows
from hostturn.turner import turned
from samples import (
    CODES, ENDS, FORMS, LAST_WORDS, WIDTHS, WRITING, choices, code_of, comes_out, drawn_filler, drawn_guest,
    drawn_texts, drawn_watch, edges, is_whole, with_fillers, wrong_codes,
)

USES = {
    "bits": (0,), "sum": (0, 1, 2), "less": (0, 1, 2), "logic": (0,), "left": (0,), "right": (0,),
    "more": (0, 2), "fewer": (0, 2),
}
ONE_BOX = ("copy", "not", "left", "right")
TWO_BOXES = ("add", "sub", "and", "or", "xor")


def boxes_asked(row):
    """The boxes whose numbers a row uses, written down from the document's forms."""
    word = row[0]
    if word in ONE_BOX:
        return {row[2]}
    if word in TWO_BOXES:
        return {row[2], row[3]}
    if word == "keep":
        return {row[2 + place] for place in USES[row[1]]}
    return {"get": row[2:3], "set": row[1:4:2], "send": row[1:2], "part": row[1:2], "go": row[1:2]}.get(word, ())


def asks(row):
    """All that a row asks for: boxes, and the record."""
    told = set(boxes_asked(row))
    if row[0] in ("get", "set", *ENDS):
        told |= {*range(8), "record"}
    if row[0] == "mark":
        told.add("record")
    return told


def written(row):
    """The box that a row writes, or the record, or None."""
    if row[0] == "keep":
        return "record"
    return row[1] if row[0] in WRITING or row[0] == "get" else None


def is_unasked(rows, at):
    """True where nobody asks for what the row writes, ahead of the next row that writes it."""
    for later in rows[at + 1:]:
        if written(rows[at]) in asks(later):
            return False
        if written(later) == written(rows[at]):
            return True
    return True


def unasked(rows):
    """The rows, by their numbers, that nobody asks for."""
    return [at for at, row in enumerate(rows)
            if (row[0] in WRITING or row[0] == "keep") and is_unasked(rows, at)]


def is_known(rows, at, box):
    """True where ahead of the row with this number the box is known."""
    writers = [row for row in rows[:at] if written(row) == box]
    return writers[-1][0] == "put" if writers else box >= 8


def is_record_known(rows, at):
    """True where ahead of the row with this number the record is known."""
    keeps = [place for place, row in enumerate(rows[:at]) if row[0] == "keep"]
    return bool(keeps) and all(is_known(rows, keeps[-1], box) for box in boxes_asked(rows[keeps[-1]]))


def known_ahead(rows):
    """The rows, by their numbers, in which nothing but what is known is asked."""
    told = []
    for at, row in enumerate(rows):
        if row[0] == "mark":
            told += [at] * is_record_known(rows, at)
        elif row[0] in (*ONE_BOX, *TWO_BOXES, "part"):
            told += [at] * all(is_known(rows, at, box) for box in boxes_asked(row))
    return told


def close_text(draw, width, words, boxes):
    """A drawn step of one of the words, with few boxes, so that steps hang on one another."""
    word, form = draw.choice([form[1:] for form in FORMS if form[1] in words])
    sorts = {"r": boxes, "s": boxes, "d": (-128, -2, -1, 0, 1, 5, 127), "K": choices("K", width)}
    parts = [draw.choice(sorts[sort]) for sort in form]
    if word == "mark":
        parts[1] = draw.randrange(8)
    if word == "jumpif":
        parts[0] = draw.randrange(8)
    return " ".join([word, *map(str, parts)])


ALL_WORDS = tuple(form[1] for form in FORMS)
AMID_WORDS = tuple(word for word in ALL_WORDS if word not in LAST_WORDS)
RECKONED_WORDS = tuple(word for word in AMID_WORDS if word not in ("get", "set", "put"))
MARKED_WORDS = ("add", "sub", "cmp", "addc", "subc", "addk", "cmpk", "more", "fewer", "left", "right", "mark", "put")


def close_texts(draw, width, many, words, boxes):
    """So many drawn steps with few boxes; of the last ones some go elsewhere."""
    texts = [close_text(draw, width, words, boxes) for turn in range(many)]
    if draw.randrange(3) > 0:
        texts[-1] = close_text(draw, width, LAST_WORDS, boxes)
    return texts


class Turner(unittest.TestCase):
    def right(self, width, place, texts):
        """The turned rows of these steps are as the document tells them."""
        code = code_of(width, *texts)
        kept = list(code)
        rows = turned(width, place, code)
        where = (width, place, texts, rows)
        self.assertEqual(code, kept)
        self.assertIsInstance(rows, list)
        self.assertIsNone(check_rows(width, rows))
        self.assertLessEqual(len(rows), len(plain_rows(width, place, code)), where)
        self.assertIs(shown(width, place, code, rows), True, where)
        self.assertEqual([rows[at] for at in unasked(rows)], [], where)
        self.assertEqual([rows[at] for at in known_ahead(rows)], [], where)
        return rows

    def check(self, draw, width, place, texts, guests=2):
        """They are right, and come out as the plain steps do from drawn guests."""
        rows = self.right(width, place, texts)
        code = code_of(width, *texts)
        for turn in range(guests):
            guest, watch = drawn_guest(draw, width, code, place), drawn_watch(draw, code, place)
            self.assertTrue(comes_out(rows, len(texts), guest, watch), (width, place, texts, rows, guest.stand()))
        return rows


class Walks(unittest.TestCase):
    """The walks of this file find what they are there to find."""

    def test_rows_that_nobody_asks_for(self):
        leave = ("leave", 1, 0)
        for rows, wanted in (
            ([("put", 1, 5), leave], []),
            ([("put", 8, 5), leave], [0]),
            ([("put", 1, 5), ("put", 1, 6), leave], [0]),
            ([("put", 1, 5), ("add", 1, 1, 2), leave], []),
            ([("put", 1, 5), ("get", 1, 2, 0, 0, 0), leave], []),
            ([("put", 9, 5), ("get", 9, 2, 0, 0, 0), ("send", 9), leave], [0]),
            ([("put", 9, 5), ("get", 1, 9, 0, 0, 0), leave], []),
            ([("put", 9, 5), ("get", 1, 2, 0, 0, 0), leave], [0]),
            ([("keep", "sum", 1, 2, 15), ("keep", "logic", 1, 2, 15), leave], [0]),
            ([("keep", "sum", 1, 2, 15), ("mark", 1, 0), ("keep", "logic", 1, 2, 15), leave], []),
            ([("keep", "sum", 1, 2, 15), ("set", 1, 0, 2, 0, 0, 0), ("keep", "logic", 1, 2, 15), leave], []),
            ([("put", 9, 5), ("keep", "logic", 1, 9, 9), leave], [0]),
            ([("put", 9, 5), ("keep", "more", 1, 9, 15), leave], [0]),
            ([("put", 9, 5), ("keep", "more", 1, 15, 9), leave], []),
            ([("put", 9, 5), ("keep", "sum", 1, 9, 15), leave], []),
            ([("put", 9, 5), ("set", 9, 0, 1, 0, 0, 0), ("put", 9, 6), ("set", 1, 0, 9, 0, 0, 0), leave], []),
            ([("put", 9, 5), ("go", 9, 1)], []),
            ([("put", 9, 5), ("part", 9, 1, 0, 2)], []),
            ([("put", 9, 5), ("stop", 9, 9)], [0]),
            ([("mark", 9, 1), ("mark", 1, 9 % 8), ("stop", 9, 9)], [0]),
        ):
            self.assertEqual(unasked(rows), wanted, rows)

    def test_rows_that_ask_known_ones_alone(self):
        leave = ("leave", 1, 0)
        for rows, wanted in (
            ([("copy", 1, 15), leave], [0]),
            ([("copy", 1, 7), leave], []),
            ([("put", 1, 5), ("not", 1, 1), ("not", 1, 1), leave], [1]),
            ([("put", 1, 5), ("add", 2, 1, 1), leave], [1]),
            ([("put", 1, 5), ("add", 2, 1, 2), leave], []),
            ([("add", 2, 8, 9), leave], [0]),
            ([("get", 9, 1, 0, 0, 0), ("add", 2, 8, 9), leave], []),
            ([("mark", 1, 0), leave], []),
            ([("keep", "logic", 15, 1, 2), ("mark", 1, 0), leave], [1]),
            ([("keep", "more", 15, 1, 2), ("mark", 1, 0), leave], []),
            ([("keep", "more", 15, 1, 14), ("put", 1, 5), ("mark", 1, 0), leave], [2]),
            ([("keep", "logic", 1, 1, 2), ("put", 1, 5), ("mark", 1, 0), leave], []),
            ([("part", 8, 1, 0, 1)], [0]),
            ([("mark", 8, 1), ("part", 8, 1, 0, 1)], []),
            ([("put", 1, 3), ("part", 1, 1, 0, 1)], [1]),
            ([("put", 1, 3), ("go", 1, 1)], []),
        ):
            self.assertEqual(known_ahead(rows), wanted, rows)


class Codes(Turner):
    """[7.1], [7.2] for codes of one to twelve steps."""

    def test_each_kind_alone(self):
        draw = random.Random(1)
        for width, (kind, word, form) in itertools.product(WIDTHS, FORMS):
            for numbers in itertools.product(*(choices(sort, width)[::3] for sort in form)):
                text = " ".join([word, *map(str, numbers)])
                for place in (0, 100, 256 - len(code_of(width, text))):
                    self.check(draw, width, place, [text], 1)

    def test_one_box_twice(self):
        draw = random.Random(2)
        for width, (kind, word, form) in itertools.product(WIDTHS, FORMS):
            if "s" in form:
                for box in range(8):
                    self.check(draw, width, 7, [" ".join([word, *[str(box)] * len(form)])])

    def test_each_pair_of_kinds(self):
        draw = random.Random(3)
        for width, first, second in itertools.product(WIDTHS, AMID_WORDS, ALL_WORDS):
            texts = [close_text(draw, width, (word,), (1, 2)) for word in (first, second)]
            self.check(draw, width, 256 - len(code_of(width, *texts)), texts)

    def test_each_pair_of_kinds_behind_puts(self):
        draw = random.Random(4)
        for width, first, second in itertools.product(WIDTHS, AMID_WORDS, ALL_WORDS):
            texts = [close_text(draw, width, (word,), (1, 2)) for word in (first, second)]
            self.check(draw, width, 0, [close_text(draw, width, ("put",), (1,)), *texts])
            self.check(draw, width, 0, ["put 1 3", close_text(draw, width, ("put",), (2,)), *texts])

    def test_twelve_of_a_kind(self):
        draw = random.Random(5)
        for width, word in itertools.product(WIDTHS, AMID_WORDS):
            for last in (None, "stop", "jumpif 4 -100", "jump 99", "go 1"):
                texts = [close_text(draw, width, (word,), (0, 1, 2)) for turn in range(12)]
                self.check(draw, width, 0, texts[:11] + [last or texts[11]])

    def test_drawn_codes_of_each_length(self):
        draw = random.Random(6)
        for width, many, turn in itertools.product(WIDTHS, range(1, 13), range(25)):
            texts = drawn_texts(draw, width, many)
            room = 256 - len(code_of(width, *texts))
            self.check(draw, width, draw.choice((0, room, draw.randrange(room + 1))), texts)

    def test_drawn_codes_with_few_boxes(self):
        draw = random.Random(7)
        for width, many, turn in itertools.product(WIDTHS, range(1, 13), range(30)):
            words = draw.choice((AMID_WORDS, AMID_WORDS, RECKONED_WORDS, MARKED_WORDS))
            boxes = draw.choice(((1,), (1, 2), (0, 3, 7)))
            texts = close_texts(draw, width, many, words, boxes)
            room = 256 - len(code_of(width, *texts))
            self.check(draw, width, draw.choice((0, room, draw.randrange(room + 1))), texts)

    def test_the_codes_written_out(self):
        draw = random.Random(8)
        for width, (place, texts) in itertools.product(WIDTHS, CODES):
            self.check(draw, width, place, texts, 20)

    def test_rows_that_are_left_out(self):
        draw = random.Random(9)
        for width in WIDTHS:
            for texts in (
                ["put 1 5", "put 1 6"],
                ["add 1 2", "add 1 2", "add 1 2", "cmp 3 4"],
                ["addc 1 2", "put 1 0", "cmpk 1 9"],
                ["more 1", "more 1", "more 1", "xor 2 2"],
                ["left 1", "right 1", "left 1", "jumpif 4 -6"],
                ["copy 1 2", "copy 1 3", "copy 1 1"],
                ["mark 1 0", "mark 1 2", "mark 1 4", "mark 1 6"],
            ):
                rows = self.check(draw, width, 3, texts, 10)
                self.assertLess(len(rows), len(plain_rows(width, 3, code_of(width, *texts))), texts)

    def test_what_a_get_or_set_may_leave_stays(self):
        draw = random.Random(10)
        for width, amid in itertools.product(WIDTHS, ("get 4 5 0", "set 4 5 0", "get 1 1 0", "set 1 1 0")):
            for first, second in (("put 1 5", "put 1 6"), ("add 1 2", "add 1 2"), ("cmp 1 2", "cmpk 1 3")):
                self.check(draw, width, 60, [first, amid, second], 30)
                self.check(draw, width, 60, [first, second, amid, first, "stop"], 30)


class Known(Turner):
    """[7.2]: what is known ahead is put in."""

    def reckoned_ahead(self, draw, width, texts):
        """All is known: nothing is left but puts, keeps, sends and the end."""
        rows = self.check(draw, width, 0, texts, 1)
        words = {row[0] for row in rows}
        self.assertLessEqual(words, {"put", "keep", "send", "leave", "go", "stop"}, (width, texts, rows))
        return rows

    def test_each_word_of_puts_alone(self):
        draw = random.Random(21)
        for width, word in itertools.product(WIDTHS, RECKONED_WORDS):
            for one, other in itertools.product(edges(width), edges(width)[::2]):
                # A record that is known stands ahead, for those that ask the marks.
                ahead = draw.choice(("cmp 1 2", "add 1 2", "left 2", "cmpk 2 -1"))
                texts = [f"put 1 {one}", f"put 2 {other}", ahead, close_text(draw, width, (word,), (1, 2))]
                self.reckoned_ahead(draw, width, texts)

    def test_all_that_is_reckoned_of_puts(self):
        draw = random.Random(22)
        for width, turn in itertools.product(WIDTHS, range(300)):
            many = draw.randrange(1, 4)
            texts = [f"put {box} {draw.choice(edges(width))}" for box in range(many)]
            texts.append(close_text(draw, width, ("cmp", "sub", "xor", "right"), range(many)))
            texts += [close_text(draw, width, RECKONED_WORDS, range(many)) for step in range(11 - len(texts))]
            last = draw.choice((*LAST_WORDS, *RECKONED_WORDS))
            self.reckoned_ahead(draw, width, texts + [close_text(draw, width, (last,), range(many))])

    def test_asks_behind_known_records(self):
        draw = random.Random(23)
        for width, ask in itertools.product(WIDTHS, range(8)):
            for one, other in itertools.product(edges(width)[::5], edges(width)[::3]):
                for makes in ("add 1 2", "sub 1 2", "cmp 1 2", "and 1 2", "addk 1 -1", "cmpk 2 1", "left 1", "right 2"):
                    puts = [f"put 1 {one}", f"put 2 {other}"]
                    self.reckoned_ahead(draw, width, [*puts, makes, f"jumpif {ask} 9"])
                    self.reckoned_ahead(draw, width, [*puts, makes, f"mark 3 {ask}", "send 3", "go 3"])

    def test_carries_behind_known_records(self):
        draw = random.Random(24)
        for width, words in itertools.product(WIDTHS, itertools.product(("addc 1 2", "subc 2 1", "more 1", "fewer 2"),
                                                                        repeat=3)):
            for one, other in ((0, 0), (2 ** width - 1, 1), (0, 1), (2 ** (width - 1), 2 ** width - 1)):
                texts = [f"put 1 {one}", f"put 2 {other}", "add 1 2", *words, "mark 3 4", "jumpif 5 3"]
                self.reckoned_ahead(draw, width, texts)

    def test_a_record_that_is_known_in_what_it_uses(self):
        draw = random.Random(25)
        for width in WIDTHS:
            # and, or, xor, left and right make records of one number alone.
            for makes in ("and 1 1", "or 1 1", "xor 1 1", "left 1", "right 1"):
                self.reckoned_ahead(draw, width, ["put 1 6", makes, "mark 2 0", "mark 3 5", "jumpif 2 4"])
            for ahead in ("cmp 3 4", "addc 3 4"):
                rows = self.check(draw, width, 0, ["put 1 6", ahead, "more 1", "jumpif 4 4"])
                self.assertEqual(rows[-1][0], "part")
                rows = self.check(draw, width, 0, ["put 1 6", ahead, "or 1 1", "more 1", "jumpif 4 4"])
                self.assertEqual(rows[-1][0], "leave")

    def test_a_record_stays_as_it_was_kept(self):
        draw = random.Random(26)
        for width in WIDTHS:
            for texts in (
                ["put 1 6", "cmp 1 1", "get 1 2 0", "mark 3 0", "jumpif 1 7"],
                ["put 1 6", "put 2 6", "cmp 1 2", "copy 1 5", "copy 2 6", "mark 3 0", "addc 4 4", "jumpif 0 7"],
                ["cmp 1 2", "put 1 6", "put 2 6", "mark 3 0", "jumpif 0 7"],
                ["put 1 5", "cmp 1 2", "put 2 5", "mark 1 0", "jumpif 4 7"],
            ):
                self.check(draw, width, 0, texts, 20)

    def test_a_part_that_is_known_leads_to_one_place(self):
        for width in WIDTHS:
            for number, ask, goal in ((0, 0, 100), (0, 1, 0), (1, 0, 0), (1, 1, 100)):
                code = code_of(width, f"put 1 {number}", "or 1 1", f"jumpif {ask} 100")
                rows = self.right(width, 0, [f"put 1 {number}", "or 1 1", f"jumpif {ask} 100"])
                self.assertEqual(rows[-1], ("leave", 3, len(code) + goal))

    def test_boxes_from_8_on_at_the_begin(self):
        draw = random.Random(27)
        for width in WIDTHS:
            for text in ("addk 1 0", "cmpk 1 0", "more 1", "fewer 1", "add 1 2", "and 1 1"):
                self.check(draw, width, 0, [text], 5)
                self.check(draw, width, 0, ["put 1 0", text], 5)
                self.reckoned_ahead(draw, width, ["put 1 0", "put 2 9", "cmp 1 2", text, "jumpif 2 1"])

    def test_a_get_between(self):
        draw = random.Random(28)
        for width, texts in itertools.product(WIDTHS, itertools.product(
            ("put 1 5", "put 1 0"), ("get 1 2 0", "get 2 1 9", "get 3 4 0", "get 1 1 0"),
            ("add 1 1", "copy 2 1", "cmpk 1 5", "not 1", "left 1", "addc 1 1", "xor 2 1", "more 1"),
            ("jumpif 0 3", "mark 1 4", "go 1", "send 1"),
        )):
            self.check(draw, width, 50, texts)
        for width in WIDTHS:
            rows = self.right(width, 0, ["put 1 5", "get 1 2 0", "not 1", "send 1"])
            self.assertIn("not", [row[0] for row in rows])
            rows = self.right(width, 0, ["put 1 5", "get 3 2 0", "not 1", "send 1"])
            self.assertNotIn("not", [row[0] for row in rows])

    def test_a_set_or_send_between(self):
        draw = random.Random(29)
        for width, amid in itertools.product(WIDTHS, ("set 1 2 0", "set 3 1 0", "send 1")):
            for text in ("add 1 1", "copy 2 1", "not 1", "left 1", "more 1"):
                rows = self.check(draw, width, 0, ["put 1 5", "xor 2 2", "put 2 0", "cmp 1 2", amid, text], 10)
                self.assertLessEqual({row[0] for row in rows}, {"put", "keep", "xor", "set", "send", "leave"})


class FillersPutIn(Turner):
    """[6.5]: turned rows with rows put in are shown."""

    def free(self, rows):
        """The boxes from 10 to 14 for which none of the rows asks."""
        return [box for box in range(10, 15) if not any(box in asks(row) for row in rows)]

    def filled(self, draw, width, rows, many):
        told = list(rows)
        free = self.free(rows)
        for turn in range(many if free else 0):
            told.insert(draw.randrange(len(told)), drawn_filler(draw, width, free))
        return told

    def test_drawn_codes(self):
        draw = random.Random(31)
        for width, many, turn in itertools.product(WIDTHS, range(1, 13), range(20)):
            texts = draw.choice((drawn_texts(draw, width, many), close_texts(draw, width, many, AMID_WORDS, (1, 2))))
            code = code_of(width, *texts)
            place = draw.randrange(257 - len(code))
            rows = turned(width, place, code)
            for number in (1, draw.randrange(2, 20), 20):
                filled = self.filled(draw, width, rows, number)
                self.assertIs(shown(width, place, code, filled), True, (width, place, texts, filled))
                guest, watch = drawn_guest(draw, width, code, place), drawn_watch(draw, code, place)
                self.assertTrue(comes_out(filled, len(texts), guest, watch))

    def test_twenty_at_each_place(self):
        draw = random.Random(32)
        for width, (place, texts) in itertools.product(WIDTHS, CODES):
            code = code_of(width, *texts)
            rows = turned(width, place, code)
            for at in range(len(rows)):
                fillers = [drawn_filler(draw, width, self.free(rows)) for turn in range(20)]
                self.assertIs(shown(width, place, code, rows[:at] + fillers + rows[at:]), True)

    def test_twelve_steps_of_four_rows_and_twenty_more(self):
        draw = random.Random(33)
        for width, text in itertools.product(WIDTHS, ("addc 1 2", "subc 3 3", "more 1", "fewer 1")):
            code = code_of(width, *[text] * 12)
            filled = with_fillers(draw, width, turned(width, 0, code), 20)
            self.assertIs(shown(width, 0, code, filled), True)


class Again(Turner):
    """[7.3], [6.2], [0.2]."""

    def test_the_same_rows_each_time(self):
        draw = random.Random(41)
        for turn in range(300):
            width = draw.choice(WIDTHS)
            texts = drawn_texts(draw, width, draw.randrange(1, 13))
            code = code_of(width, *texts)
            place = draw.randrange(257 - len(code))
            first, second = turned(width, place, code), turned(width, place, list(code))
            self.assertEqual(first, second)
            self.assertIsNot(first, second)
            wanted = list(first)
            second.clear()
            code.clear()
            self.assertEqual(first, wanted)
            self.assertEqual(turned(width, place, code_of(width, *texts)), wanted)

    def test_numbers_told_are_whole(self):
        for width, (place, texts) in itertools.product(WIDTHS, CODES):
            for row in turned(width, place, code_of(width, *texts)):
                self.assertIsInstance(row, tuple)
                self.assertTrue(all(is_whole(part) for part in row[1 + (row[0] == "keep"):]), row)

    def test_codes_that_are_not_right(self):
        for width in WIDTHS:
            for place, code in wrong_codes(width):
                kept = list(code) if isinstance(code, list) else code
                with self.assertRaises(HostError, msg=repr((width, place, code))) as caught:
                    turned(width, place, code)
                self.assertIs(caught.exception.__class__, NoCode)
                self.assertEqual(code, kept)

    def test_codes_up_to_byte_255(self):
        for width, text in itertools.product(WIDTHS, ("stop", "more 1", "put 1 255", "get 1 2 3", "jump -3")):
            size = len(code_of(width, text))
            rows = self.right(width, 256 - size, [text])
            if rows[-1][0] == "leave" and text != "jump -3":
                self.assertEqual(rows[-1], ("leave", 1, 0))

    def test_a_code_of_more_steps_than_twelve(self):
        code = code_of(8, *["more 1"] * 13, "stop")
        self.assertIs(shown(8, 0, code, turned(8, 0, code)), True)


if __name__ == "__main__":
    unittest.main()
