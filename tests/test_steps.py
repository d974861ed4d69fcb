"""Stage 2, [2.1] to [2.3], and [0.2]: the steps, their words, texts, codes and sizes."""

import unittest

from hostturn import steps
from hostturn.steps import (
    Add, AddC, AddK, And, Cmp, CmpK, Copy, Fewer, Get, Go, Jump, JumpIf, Left, Mark, More, Not,
    Or, Put, Right, Send, Set, Step, Stop, Sub, SubC, Xor,
)
from samples import FORMS, WIDTHS, samples, wanted_code

# A step of each kind written out: class, numbers, text, and its code at 16 bits.
WRITTEN = (
    (Stop, [], "stop", [0]),
    (Put, [3, 300], "put 3 300", [11, 44, 1]),
    (Copy, [1, 2], "copy 1 2", [17, 2]),
    (Add, [1, 2], "add 1 2", [25, 2]),
    (Sub, [7, 0], "sub 7 0", [39, 0]),
    (And, [0, 7], "and 0 7", [40, 7]),
    (Or, [2, 3], "or 2 3", [50, 3]),
    (Xor, [4, 4], "xor 4 4", [60, 4]),
    (Cmp, [5, 6], "cmp 5 6", [69, 6]),
    (AddC, [6, 5], "addc 6 5", [78, 5]),
    (SubC, [0, 1], "subc 0 1", [80, 1]),
    (AddK, [1, -128], "addk 1 -128", [89, 128]),
    (CmpK, [2, -1], "cmpk 2 -1", [98, 255]),
    (More, [3], "more 3", [107]),
    (Fewer, [4], "fewer 4", [116]),
    (Left, [5], "left 5", [125]),
    (Right, [6], "right 6", [134]),
    (Not, [7], "not 7", [143]),
    (Get, [3, 5, -2], "get 3 5 -2", [147, 5, 254]),
    (Set, [0, 7, 127], "set 0 7 127", [152, 7, 127]),
    (Send, [1], "send 1", [161]),
    (Jump, [-2], "jump -2", [168, 254]),
    (JumpIf, [4, -7], "jumpif 4 -7", [180, 249]),
    (Go, [2], "go 2", [186]),
    (Mark, [3, 6], "mark 3 6", [195, 6]),
)


class Classes(unittest.TestCase):
    def test_there_are_twenty_five_kinds(self):
        self.assertEqual(len({kind for kind, word, form in FORMS}), 25)

    def test_each_kind_stands_right_under_step_and_none_under_another(self):
        kinds = [kind for kind, word, form in FORMS]
        for kind in kinds:
            with self.subTest(kind.__name__):
                self.assertEqual(kind.__bases__, (Step,))
                self.assertEqual([one for one in kinds if issubclass(kind, one)], [kind])

    def test_the_module_holds_no_other_kind(self):
        held = {
            thing for thing in vars(steps).values()
            if isinstance(thing, type) and issubclass(thing, Step)
        }
        self.assertEqual(held, {Step} | {kind for kind, word, form in FORMS})

    def test_each_step_is_of_just_its_own_class(self):
        for kind, numbers, text, code in WRITTEN:
            step = kind(list(numbers))
            with self.subTest(text):
                self.assertIsInstance(step, Step)
                told = [one for one, word, form in FORMS if isinstance(step, one)]
                self.assertEqual(told, [kind])


class Words(unittest.TestCase):
    def test_each_kinds_word(self):
        for width in WIDTHS:
            for number, kind, word, form, numbers in samples(width):
                self.assertEqual(kind(numbers).word(), word)


class Texts(unittest.TestCase):
    def test_written_out(self):
        for kind, numbers, text, code in WRITTEN:
            with self.subTest(text):
                self.assertEqual(kind(numbers).text(), text)

    def test_the_documents_examples(self):
        self.assertEqual(Put([3, 300]).text(), "put 3 300")
        self.assertEqual(Get([3, 5, -2]).text(), "get 3 5 -2")
        self.assertEqual(JumpIf([4, -7]).text(), "jumpif 4 -7")
        self.assertEqual(Stop([]).text(), "stop")

    def test_edges_of_leaps_small_numbers_and_k(self):
        for kind, numbers, text in (
            (Jump, [-128], "jump -128"), (Jump, [-1], "jump -1"), (Jump, [0], "jump 0"),
            (Jump, [127], "jump 127"), (JumpIf, [0, -128], "jumpif 0 -128"),
            (JumpIf, [7, 127], "jumpif 7 127"), (JumpIf, [7, 0], "jumpif 7 0"),
            (AddK, [0, -128], "addk 0 -128"), (AddK, [7, -1], "addk 7 -1"),
            (AddK, [7, 0], "addk 7 0"), (CmpK, [7, 127], "cmpk 7 127"),
            (Get, [0, 0, -128], "get 0 0 -128"), (Get, [7, 7, 127], "get 7 7 127"),
            (Set, [0, 0, -1], "set 0 0 -1"), (Set, [0, 0, 0], "set 0 0 0"),
            (Put, [0, 0], "put 0 0"), (Put, [7, 255], "put 7 255"),
            (Put, [7, 65535], "put 7 65535"), (Put, [7, 4294967295], "put 7 4294967295"),
        ):
            with self.subTest(text):
                self.assertEqual(kind(numbers).text(), text)

    def test_every_sample_is_its_word_and_its_numbers(self):
        for width in WIDTHS:
            for number, kind, word, form, numbers in samples(width):
                text = kind(numbers).text()
                self.assertEqual(text.split(" "), [word] + ["%d" % part for part in numbers])


class Codes(unittest.TestCase):
    def check(self, step, width, wanted):
        with self.subTest(text=step.text(), width=width):
            code = step.code(width)
            self.assertIsInstance(code, list)
            self.assertEqual(code, wanted)
            for byte in code:
                self.assertTrue(isinstance(byte, int) and not isinstance(byte, bool))
                self.assertTrue(0 <= byte <= 255)
            size = step.size(width)
            self.assertEqual(size, len(wanted))
            self.assertTrue(isinstance(size, int) and not isinstance(size, bool))

    def test_the_documents_examples(self):
        self.check(Put([3, 300]), 16, [11, 44, 1])
        self.check(Get([3, 5, -2]), 16, [147, 5, 254])

    def test_the_stage_3_example(self):
        self.check(Add([1, 2]), 8, [25, 2])

    def test_written_out_and_but_for_put_alike_at_each_width(self):
        for kind, numbers, text, code in WRITTEN:
            self.check(kind(numbers), 16, code)
            if kind is not Put:
                self.check(kind(numbers), 8, code)
                self.check(kind(numbers), 32, code)

    def test_put_at_each_width(self):
        for width, number, wanted in (
            (8, 0, [8, 0]), (8, 1, [8, 1]), (8, 127, [8, 127]), (8, 128, [8, 128]),
            (8, 255, [8, 255]),
            (16, 0, [8, 0, 0]), (16, 255, [8, 255, 0]), (16, 256, [8, 0, 1]),
            (16, 258, [8, 2, 1]), (16, 32768, [8, 0, 128]), (16, 65535, [8, 255, 255]),
            (32, 0, [8, 0, 0, 0, 0]), (32, 255, [8, 255, 0, 0, 0]),
            (32, 300, [8, 44, 1, 0, 0]), (32, 65536, [8, 0, 0, 1, 0]),
            (32, 16777216, [8, 0, 0, 0, 1]), (32, 67305985, [8, 1, 2, 3, 4]),
            (32, 2147483648, [8, 0, 0, 0, 128]), (32, 4294967295, [8, 255, 255, 255, 255]),
        ):
            self.check(Put([0, number]), width, wanted)
            self.check(Put([7, number]), width, [15] + wanted[1:])

    def test_leaps_and_small_numbers_at_each_width(self):
        for width in WIDTHS:
            for d, byte in (
                (-128, 128), (-127, 129), (-2, 254), (-1, 255), (0, 0), (1, 1), (126, 126),
                (127, 127),
            ):
                self.check(AddK([7, d]), width, [95, byte])
                self.check(CmpK([0, d]), width, [96, byte])
                self.check(Get([1, 2, d]), width, [145, 2, byte])
                self.check(Set([6, 0, d]), width, [158, 0, byte])
                self.check(Jump([d]), width, [168, byte])
                self.check(JumpIf([7, d]), width, [183, byte])

    def test_the_first_byte_of_each_kind(self):
        for width in WIDTHS:
            for number, (kind, word, form) in enumerate(FORMS):
                for first in range(8):
                    numbers = [first] + [0] * (len(form) - 1) if form else []
                    low = 0 if kind in (Stop, Jump) else first
                    self.assertEqual(kind(numbers).code(width)[0], 8 * number + low)

    def test_sizes(self):
        sizes = {"": 1, "r": 1, "rs": 2, "rd": 2, "d": 2, "rsd": 3}
        for width in WIDTHS:
            for number, kind, word, form, numbers in samples(width):
                wanted = 1 + width // 8 if form == "rK" else sizes[form]
                self.assertEqual(kind(numbers).size(width), wanted)
        self.assertEqual([Put([0, 0]).size(width) for width in WIDTHS], [2, 3, 5])

    def test_every_sample_beside_a_reckoning_from_its_form(self):
        for width in WIDTHS:
            for number, kind, word, form, numbers in samples(width):
                wanted = wanted_code(width, number, form, numbers)
                step = kind(numbers)
                self.assertEqual(step.code(width), wanted)
                self.assertEqual(step.size(width), len(wanted))

    def test_no_two_samples_have_one_code(self):
        for width in WIDTHS:
            told = [tuple(row[1](row[4]).code(width)) for row in samples(width)]
            self.assertEqual(len(set(told)), len(told))


class Lists(unittest.TestCase):
    def test_the_field_numbers(self):
        for kind, numbers, text, code in WRITTEN:
            with self.subTest(text):
                step = kind(list(numbers))
                self.assertIsInstance(step.numbers, list)
                self.assertEqual(step.numbers, numbers)

    def test_a_list_changed_behind_changes_nothing(self):
        for kind, numbers, text, code in WRITTEN:
            handed = list(numbers)
            step = kind(handed)
            handed[:] = [part + 1 for part in handed]
            handed.append(5)
            with self.subTest(text):
                self.assertEqual(step.numbers, numbers)
                self.assertEqual(step.text(), text)
                self.assertEqual(step.code(16), code)
                self.assertEqual(step.size(16), len(code))
                handed.clear()
                self.assertEqual((step.text(), step.code(16)), (text, code))

    def test_the_list_handed_in_is_not_changed(self):
        for kind, numbers, text, code in WRITTEN:
            handed = list(numbers)
            step = kind(handed)
            for width in WIDTHS:
                step.word(), step.text(), step.code(width), step.size(width)
            with self.subTest(text):
                self.assertEqual(handed, numbers)
                self.assertEqual(step.numbers, numbers)

    def test_a_code_told_and_changed_changes_nothing(self):
        for width in WIDTHS:
            for kind, numbers, text, code in WRITTEN:
                step = kind(list(numbers))
                wanted = list(step.code(width))
                told = step.code(width)
                told[0] = 99
                told.append(77)
                with self.subTest(text=text, width=width):
                    self.assertEqual(step.code(width), wanted)
                    self.assertEqual(step.size(width), len(wanted))
                    self.assertEqual((step.numbers, step.text()), (numbers, text))
                    self.assertIsNot(step.code(width), step.code(width))

    def test_two_steps_of_one_list_are_apart(self):
        handed = [1, 2]
        first = Add(handed)
        second = Add(handed)
        self.assertIsNot(first.numbers, second.numbers)


if __name__ == "__main__":
    unittest.main()
