"""[0.2], [0.3] and the interface over the whole program."""

import ast
import copy
import importlib
import inspect
import itertools
import os
import pathlib
import random
import subprocess
import sys
import unittest

from hostturn import errors
from hostturn.checker import shown
from hostturn.codes import listing, step_at, step_of
from hostturn.desk import Desk
from hostturn.errors import HostError
from hostturn.guest import Guest
from hostturn.house import check_rows, run_rows
from hostturn.keep import kept, read_kept
from hostturn.plain import run_plain, step
from hostturn.plainrows import code_at, plain_rows
from hostturn.steps import Put
from hostturn.terms import Terms
from hostturn.turned import Turned
from hostturn.turner import turned
from hostturn.words import marks_of, used
from samples import WIDTHS, code_of, drawn_program, drawn_texts, floor_of

ROOT = pathlib.Path(__file__).resolve().parent.parent
REFUSALS = ("NoStep", "BadGuest", "BadRows", "NoCode", "TooMany", "NotShown", "BadShelf", "NoRow")

# Each name of the interface and its arguments, as the document has them.
FUNCTIONS = {
    "words": ("fit(width, number)", "signed(width, number)", "marks_of(width, record)", "used(kind)",
              "asked(marks, ask)", "reckoned(width, word, one, other)"),
    "codes": ("step_of(width, row)", "step_at(width, floor, place)", "listing(width, floor, place, most)"),
    "plain": ("step(guest)", "run_plain(guest, bell)"),
    "house": ("check_rows(width, rows)", "run_rows(guest, rows, watch)"),
    "plainrows": ("code_at(width, floor, place, most)", "plain_rows(width, place, code)"),
    "checker": ("shown(width, place, code, rows)",),
    "turner": ("turned(width, place, code)",),
    "keep": ("kept(guest)", "read_kept(text)"),
}
CLASSES = {
    ("steps", "Step"): ("(numbers)", "word()", "text()", "size(width)", "code(width)"),
    ("guest", "Guest"): ("(width, floor, boxes=None, marks=None, wards=None, place=0)", "stand()", "is_ward(address)",
                         "twin()"),
    ("terms", "Terms"): ("(width)", "number(whole)", "unknown(name, which)", "make(word, one, other=None)",
                         "mark(ask, record)", "value(one, given)"),
    ("turned", "Turned"): ("(guest, bound=8, most=12)", "run(bell)", "stand()", "shelf()", "ties()", "lay(place, rows)"),
    ("desk", "Desk"): ("()", "say(row)"),
}


class Interface(unittest.TestCase):
    def test_functions(self):
        for name, wanted in FUNCTIONS.items():
            module = importlib.import_module(f"hostturn.{name}")
            for text in wanted:
                function = getattr(module, text.partition("(")[0])
                self.assertEqual(function.__name__ + str(inspect.signature(function)), text)

    def test_classes(self):
        for (name, called), (made, *methods) in CLASSES.items():
            kind = getattr(importlib.import_module(f"hostturn.{name}"), called)
            self.assertEqual(str(inspect.signature(kind)), made)
            for text in methods:
                word, blank, arguments = text.partition("(")
                wanted = "(self, " + arguments if arguments != ")" else "(self)"
                self.assertEqual(str(inspect.signature(getattr(kind, word))), wanted)


class Refusals(unittest.TestCase):
    """Each stands right under HostError, and under no other one."""

    def test_classes(self):
        self.assertEqual(HostError.__bases__, (ValueError,))
        for name in REFUSALS:
            self.assertEqual(getattr(errors, name).__bases__, (HostError,))

    def test_the_package_has_no_error_class_beside_them(self):
        for path in sorted((ROOT / "hostturn").glob("*.py")):
            for node in ast.walk(ast.parse(path.read_text())):
                if isinstance(node, ast.ClassDef) and path.name != "errors.py":
                    bases = [base.id for base in node.bases]
                    self.assertIn(bases, ([], ["Step"]), f"{path.name}:{node.lineno}")

    def test_as_they_are_raised(self):
        guest = Guest(8, [0] * 256)
        full = Terms(8)

        def fill():
            for which in range(100000):
                full.unknown("box", which)

        for name, act in (
            ("NoStep", lambda: step_of(8, "nothing")),
            ("BadGuest", lambda: Guest(9, [0] * 256)),
            ("BadRows", lambda: check_rows(8, [])),
            ("BadRows", lambda: run_rows(guest, [("nothing",)], bool)),
            ("NoCode", lambda: plain_rows(8, 0, [])),
            ("NoCode", lambda: turned(8, 0, [255])),
            ("TooMany", fill),
            ("NotShown", lambda: Turned(guest).lay(0, [("leave", 1, 1)])),
            ("BadShelf", lambda: Turned(guest, 0)),
            ("NoRow", lambda: read_kept("")),
            ("NoRow", lambda: Desk().say("stand")),
        ):
            with self.assertRaises(HostError) as caught:
                act()
            self.assertIs(caught.exception.__class__, getattr(errors, name))
            for other in REFUSALS:
                self.assertEqual(isinstance(caught.exception, getattr(errors, other)), other == name)


class HandedIn(unittest.TestCase):
    """Nothing that is handed in is changed; what is done to it behind changes nothing."""

    def stays(self, act, *things):
        before = copy.deepcopy(things)
        told = act(*things)
        self.assertEqual(things, before)
        return told

    def test_lists_stay(self):
        draw = random.Random(1)
        for turn in range(40):
            width = draw.choice(WIDTHS)
            texts = drawn_texts(draw, width, draw.randrange(1, 13))
            code = code_of(width, *texts)
            floor = floor_of(width, *texts)
            self.stays(step_at, width, floor, 0)
            self.stays(listing, width, floor, 0, 99)
            self.stays(code_at, width, floor, 0, 12)
            rows = self.stays(plain_rows, width, 0, code)
            self.stays(turned, width, 0, code)
            self.stays(check_rows, width, rows)
            self.stays(shown, width, 0, code, rows)
            self.stays(lambda boxes, wards: Guest(width, floor, boxes, None, wards), [1] * 8, [3, 1, 3])
            guest = Guest(width, floor)
            self.stays(lambda held: run_rows(guest, held, lambda address: True), rows)
            run = Turned(Guest(width, floor))
            self.stays(lambda held: run.lay(0, held), rows)
            run.run(30)
            table = Terms(width)
            self.stays(table.value, table.unknown("box", 1), {("box", 1): 3})

    def test_a_guest_stays_but_where_it_is_told(self):
        draw = random.Random(2)
        for turn in range(20):
            guest = drawn_program(draw, draw.choice(WIDTHS))
            run_plain(guest, 5)
            wanted = (guest.stand(), guest.record, guest.width)
            for act in (Turned, kept, lambda held: held.stand(), lambda held: held.twin(), lambda held: held.is_ward(9),
                        lambda held: Turned(held).run(50), lambda held: run_plain(held.twin(), 50)):
                act(guest)
                self.assertEqual((guest.stand(), guest.record, guest.width), wanted)

    def test_what_is_done_to_them_behind_changes_nothing(self):
        numbers = [3, 300]
        put = Put(numbers)
        numbers.clear()
        self.assertEqual(put.text(), "put 3 300")
        floor, boxes, wards = floor_of(8, "more 1", "send 1", "jump -4"), [7] * 8, [5]
        guest = Guest(8, floor, boxes, None, wards)
        floor.clear()
        boxes[1] = 0
        wards.append(0)
        self.assertEqual(run_plain(guest, 3), "bell")
        self.assertEqual((guest.sent, guest.is_ward(0), guest.is_ward(80)), ([8], False, True))
        run = Turned(guest)
        code = code_of(8, "more 1", "send 1", "jump -4")
        rows = plain_rows(8, 0, code)
        told = list(rows)
        run.lay(0, rows)
        rows[0] = ("stop", 0, 0)
        code.clear()
        guest.floor[0] = 0
        guest.boxes[1] = 100
        guest.sent.clear()
        self.assertEqual((run.run(9), run.stand()[4]), ("bell", [8, 9, 10]))
        self.assertEqual(run.shelf(), [(0, code_of(8, "more 1", "send 1", "jump -4"), told)])


class ToldNew(unittest.TestCase):
    """What is told is the asker's own, new each time."""

    def new_each_time(self, tell):
        first = tell()
        wanted = copy.deepcopy(first)
        self.spoil(first)
        second = tell()
        self.assertEqual(second, wanted)
        self.assertNotEqual(first, second)

    def spoil(self, thing):
        """Each list within is changed."""
        for part in thing if isinstance(thing, (list, tuple)) else ():
            self.spoil(part)
        if isinstance(thing, list):
            thing.append(99)

    def test_lists(self):
        texts = ["put 3 30", "more 1", "send 1", "jump -6"]
        floor, code = floor_of(8, *texts), code_of(8, *texts)
        guest = Guest(8, floor)
        run = Turned(guest)
        run.run(21)
        self.assertNotEqual(run.ties(), [])
        for tell in (
            lambda: Put([3, 30]).code(8), lambda: step_at(8, floor, 0).numbers, lambda: step_of(8, "put 3 30").numbers,
            lambda: listing(8, floor, 0, 9), guest.stand, lambda: code_at(8, floor, 0, 12),
            lambda: plain_rows(8, 0, code), lambda: turned(8, 0, code), run.stand, run.shelf, run.ties,
            lambda: guest.twin().floor, lambda: guest.twin().boxes, lambda: guest.twin().sent,
            lambda: read_kept(kept(guest)).floor, lambda: read_kept(kept(guest)).boxes,
            lambda: read_kept(kept(guest)).sent,
        ):
            self.new_each_time(tell)

    def test_tuples_hold_no_list(self):
        self.assertEqual(marks_of(8, ("bits", 5, 0, 0)), (1, 0, 1, 0))
        self.assertEqual(used("more"), (0, 2))

    def test_steps_and_guests_are_new_objects(self):
        floor = floor_of(8, "more 1")
        self.assertIsNot(step_at(8, floor, 0), step_at(8, floor, 0))
        self.assertIsNot(step_of(8, "more 1"), step_of(8, "more 1"))
        guest = Guest(8, floor)
        self.assertIsNot(guest.twin(), guest)
        self.assertIsNot(read_kept(kept(guest)), read_kept(kept(guest)))


SCRIPT = """
import random
from hostturn.checker import shown
from hostturn.desk import Desk
from hostturn.keep import kept
from hostturn.plainrows import code_at
from hostturn.turned import Turned
from hostturn.turner import turned
from samples import WIDTHS, drawn_program
draw = random.Random(5)
for turn in range(30):
    guest = drawn_program(draw, draw.choice(WIDTHS))
    run = Turned(guest, 3, 5)
    print(run.run(80), run.stand(), run.shelf(), run.ties(), kept(guest))
    code = code_at(guest.width, guest.floor, guest.place, 12)
    print(turned(guest.width, guest.place, code), shown(guest.width, guest.place, code, []))
"""


class NothingElse(unittest.TestCase):
    """Nothing hangs on a clock, chance or files."""

    def told_with(self, seed, folder):
        around = dict(os.environ, PYTHONHASHSEED=seed, PYTHONPATH=f"{ROOT}{os.pathsep}{ROOT / 'tests'}")
        done = subprocess.run([sys.executable, "-c", SCRIPT], env=around, cwd=folder, capture_output=True, check=True)
        return done.stdout

    def test_the_same_from_run_to_run(self):
        first = self.told_with("0", ROOT)
        self.assertGreater(len(first), 10000)
        self.assertEqual(self.told_with("1", "/"), first)
        self.assertEqual(self.told_with("77", ROOT / "tests"), first)

    def test_no_module_but_the_packages_own_is_drawn_from(self):
        for path in sorted((ROOT / "hostturn").glob("*.py")):
            for node in ast.walk(ast.parse(path.read_text())):
                self.assertNotIsInstance(node, ast.Import)
                if isinstance(node, ast.ImportFrom):
                    self.assertTrue(node.module.startswith("hostturn."), path.name)


class Promise(unittest.TestCase):
    """[0.3], from the bytes to the desk."""

    def test_all_roads_come_to_one_stand(self):
        draw = random.Random(3)
        for turn, width in itertools.product(range(25), WIDTHS):
            guest = drawn_program(draw, width)
            bells = sorted(draw.randrange(120) for bell in range(6))
            plain, run, again = guest.twin(), Turned(guest), Turned(guest, 2, 3)
            stepped = guest.twin()
            for bell in bells:
                told = run_plain(plain, bell)
                self.assertEqual(run.run(bell), told)
                self.assertEqual(again.run(bell), told)
                while stepped.done < bell and step(stepped) == "on":
                    pass
                for other in (run, again, stepped):
                    self.assertEqual(other.stand(), plain.stand())
                # The one is kept and goes on with an empty shelf.
                again = Turned(read_kept(kept(plain)), 2, 3)


if __name__ == "__main__":
    unittest.main()
