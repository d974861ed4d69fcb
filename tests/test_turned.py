"""Stage 8, [8.1] to [8.6], and [0.2], [0.3]: the shelf and the turned run."""

import itertools
import random
import unittest

from hostturn.checker import shown
from hostturn.codes import listing, step_at
from hostturn.errors import BadShelf, HostError, NotShown
from hostturn.guest import Guest
from hostturn.plain import run_plain, step
from hostturn.plainrows import code_at, plain_rows
from hostturn.turned import Turned
from hostturn.turner import turned
from samples import WIDTHS, code_of, drawn_program, floor_of, floor_with, with_fillers

NO_NUMBERS = (None, True, False, "8", "", 1.0, 8.0, [1], (1,), {}, object())


def step_count(width, code):
    """How many steps a code has."""
    return len(listing(width, floor_with(code), 0, 256))


class Model:
    """The turned run once more, with plain steps in the place of rows: what lies on its shelf, and its ties."""

    def __init__(self, guest, bound=8, most=12):
        self.guest, self.bound, self.most = guest.twin(), bound, most
        self.lying, self.tied = [], set()

    def places(self):
        return [place for place, code in self.lying]

    def goes(self, place):
        self.lying = [held for held in self.lying if held[0] != place]
        self.tied = {tie for tie in self.tied if place not in tie}

    def lay(self, place):
        code = code_at(self.guest.width, self.guest.floor, place, self.most)
        if code:
            self.goes(place)
            self.lying.append((place, code))
            if len(self.lying) > self.bound:
                self.goes(self.lying[0][0])

    def one_step(self):
        """A plain step: the word told, and whether something went from the shelf."""
        found = step_at(self.guest.width, self.guest.floor, self.guest.place)
        address = None
        if found is not None and found.word() == "set":
            address = (self.guest.boxes[found.numbers[1]] + found.numbers[2]) % 2 ** self.guest.width
        word = step(self.guest)
        if word != "on" or address is None:
            return word, False
        hit = [place for place, code in self.lying if address in range(place, place + len(code))]
        for place in hit:
            self.goes(place)
        return word, bool(hit)

    def one_stretch(self, place, many):
        for turn in range(many):
            word, is_left = self.one_step()
            if word != "on":
                return word
            if is_left:
                break
        if place in self.places() and self.guest.place in self.places():
            self.tied.add((place, self.guest.place))
        return "on"

    def run(self, bell):
        while self.guest.done < bell:
            place = self.guest.place
            if place not in self.places():
                self.lay(place)
            many = step_count(self.guest.width, dict(self.lying).get(place, []))
            word = self.one_stretch(place, many) if 0 < many <= bell - self.guest.done else self.one_step()[0]
            if word != "on":
                return word
        return "bell"


def told_of(run):
    """All that a turned run tells of itself."""
    return run.stand(), run.shelf(), run.ties()


class TurnedTest(unittest.TestCase):
    def lies(self, run, *wanted):
        """These places lie on the shelf, the oldest first, each with the floor's code and rows shown for it."""
        shelf = run.shelf()
        self.assertIsInstance(shelf, list)
        self.assertEqual([place for place, code, rows in shelf], list(wanted))
        floor = run.stand()[2]
        for held in shelf:
            self.assertIsInstance(held, tuple)
            place, code, rows = held
            self.assertEqual(code, floor[place:place + len(code)])
            self.assertIs(shown(self.width, place, code, rows), True)

    def guest(self, *texts, boxes=None, wards=None, place=0, marks=None):
        return Guest(self.width, floor_of(self.width, *texts), boxes, marks, wards, place)

    width = 8

    def like(self, run, model, told, word):
        """The turned run told this word, and stands as the model does."""
        self.assertEqual(told, word)
        self.assertEqual(run.stand(), model.guest.stand())
        self.assertEqual([held[:2] for held in run.shelf()], model.lying)
        self.assertEqual(run.ties(), sorted(model.tied))


class Begin(TurnedTest):
    """[8.1]."""

    def test_at_first_the_shelf_is_empty(self):
        guest = self.guest("more 1", "stop", boxes=[1, 2, 3, 4, 5, 6, 7, 8], marks=(1, 0, 1, 0))
        for run in (Turned(guest), Turned(guest, 1, 1), Turned(guest, bound=3, most=4)):
            self.assertEqual(told_of(run), (guest.stand(), [], []))

    def test_the_guest_handed_in_is_not_changed(self):
        guest = self.guest("more 1", "set 1 2 60", "send 1", "jump -7")
        guest.record = ("sum", 200, 100, 0)
        wanted = guest.stand()
        run = Turned(guest)
        self.assertEqual(run.run(20), "bell")
        run.lay(0, plain_rows(8, 0, code_at(8, run.stand()[2], 0, 12)))
        self.assertEqual(guest.stand(), wanted)
        self.assertEqual(guest.record, ("sum", 200, 100, 0))
        self.assertEqual(run.stand()[5], 20)

    def test_the_run_is_not_changed_by_what_is_done_to_that_guest(self):
        guest = self.guest("more 1", "set 1 2 60", "send 1", "jump -7", wards=[15])
        run, other = Turned(guest), Turned(guest.twin())
        guest.floor[0] = 0
        guest.boxes[2] = 9
        run_plain(guest, 3)
        guest.sent.append(7)
        self.assertEqual(told_of(run), told_of(other))
        self.assertEqual((run.run(50), told_of(run)), (other.run(50), told_of(other)))

    def test_two_runs_of_one_guest(self):
        guest = self.guest("more 1", "jump -3")
        one, other = Turned(guest), Turned(guest)
        one.run(9)
        self.assertEqual(told_of(other), (guest.stand(), [], []))

    def test_a_guest_that_has_gone_on(self):
        guest = self.guest("send 1", "add 1 2", "jump -5", boxes=[0, 200, 100, 0, 0, 0, 0, 0])
        run_plain(guest, 5)
        run = Turned(guest)
        self.assertEqual(run.stand(), guest.stand())
        self.assertEqual(run.run(5), "bell")
        self.assertEqual(told_of(run), (guest.stand(), [], []))
        self.assertEqual(run.run(30), run_plain(guest, 30))
        self.assertEqual(run.stand(), guest.stand())

    def test_each_bound_and_most(self):
        guest = self.guest("more 1", "more 2", "jump -4")
        for bound, most in itertools.product(range(1, 9), range(1, 13)):
            run = Turned(guest, bound, most)
            self.assertEqual(run.run(40), "bell")
            self.assertLessEqual(len(run.shelf()), bound)

    def test_others_are_refused(self):
        guest = self.guest("stop")
        wrong = [(bound, 12) for bound in (0, -1, 9, 10, 12, 100, *NO_NUMBERS)]
        wrong += [(8, most) for most in (0, -1, 13, 14, 100, *NO_NUMBERS)]
        for bound, most in [*wrong, (0, 0), (9, 13), (None, None)]:
            with self.assertRaises(HostError, msg=(bound, most)) as caught:
                Turned(guest, bound, most)
            self.assertIs(caught.exception.__class__, BadShelf)
        for bound in (0, 9, True, None):
            with self.assertRaises(BadShelf):
                Turned(guest, bound=bound)
        for most in (0, 13, True, None):
            with self.assertRaises(BadShelf):
                Turned(guest, most=most)

    def test_left_out(self):
        long = self.guest(*["more 1"] * 30, "stop")
        run = Turned(long)
        run.run(12)
        self.lies(run, 0)
        self.assertEqual(run.shelf()[0][1], code_of(8, *["more 1"] * 12))
        leaps = self.guest(*["jump 0"] * 20)
        run = Turned(leaps)
        run.run(8)
        self.lies(run, *range(0, 16, 2))
        run.run(9)
        self.lies(run, *range(2, 18, 2))
        run = Turned(long, bound=2)
        self.assertEqual(run.run(31), "stop")
        self.assertEqual([len(code) for place, code, rows in run.shelf()], [12, 7])
        run = Turned(long, most=3)
        run.run(30)
        self.lies(run, *range(6, 30, 3))


class Bells(TurnedTest):
    """[8.2]: runs to bells."""

    def test_a_bell_at_the_count_or_ahead_of_it(self):
        run = Turned(self.guest("more 1", "jump -3"))
        for bell in (0, -1, -100):
            self.assertEqual(run.run(bell), "bell")
            self.lies(run)
        self.assertEqual(run.run(6), "bell")
        wanted = told_of(run)
        for bell in (6, 5, 0, -1):
            self.assertEqual((run.run(bell), told_of(run)), ("bell", wanted))

    def test_a_bell_in_the_middle_of_a_stretch(self):
        for width in WIDTHS:
            self.width = width
            run = Turned(self.guest(*["more 1"] * 20, "stop"), most=4)
            self.assertEqual(run.run(3), "bell")
            # Each place was looked at, and a stretch laid there, of which one plain step was done.
            self.lies(run, 0, 1, 2)
            self.assertEqual((run.stand()[0][1], run.stand()[3], run.stand()[5]), (3, 3, 3))
            self.assertEqual(run.run(4), "bell")
            self.lies(run, 0, 1, 2, 3)
            self.assertEqual(run.run(8), "bell")
            self.lies(run, 0, 1, 2, 3, 4)
            self.assertEqual(run.run(16), "bell")
            self.lies(run, 0, 1, 2, 3, 4, 8, 12)
            self.assertEqual(run.stand()[0][1], 16)
            self.assertEqual(run.ties(), [])

    def test_as_many_steps_as_are_left(self):
        for many in range(1, 13):
            guest = self.guest(*["more 1"] * many, "stop")
            run = Turned(guest, most=many)
            self.assertEqual(run.run(many), "bell")
            self.lies(run, 0)
            run = Turned(guest, most=many)
            self.assertEqual(run.run(many - 1), "bell")
            self.lies(run, *range(max(0, many - 9), many - 1))

    def test_a_stop_is_counted_among_the_steps(self):
        guest = self.guest("more 1", "stop")
        run = Turned(guest)
        self.assertEqual(run.run(1), "bell")
        self.lies(run, 0)
        self.assertEqual(run.stand()[5], 1)
        for bell in (2, 3, 100):
            self.assertEqual(run.run(bell), "stop")
            self.lies(run, 0, 1)
            self.assertEqual((run.stand()[3], run.stand()[5]), (1, 1))
        self.assertEqual(run.run(1), "bell")
        run = Turned(guest)
        self.assertEqual(run.run(2), "stop")
        self.lies(run, 0)
        self.assertEqual((run.stand()[3], run.stand()[5]), (1, 1))
        self.assertEqual(run.ties(), [])

    def test_faults(self):
        for width, word, texts, boxes, done in (
            (16, "out", ["more 1", "get 2 3 0", "more 1"], [0, 0, 0, 256, 0, 0, 0, 0], 1),
            (32, "out", ["more 1", "more 1", "set 2 3 -1", "stop"], [0] * 8, 2),
            (8, "ward", ["more 1", "set 2 3 0", "more 1"], [0, 0, 0, 255, 0, 0, 0, 0], 1),
            (16, "ward", ["set 2 3 1", "jump -4"], [0, 0, 0, 239, 0, 0, 0, 0], 0),
        ):
            self.width = width
            guest = self.guest(*texts, boxes=boxes, wards=[15])
            run = Turned(guest)
            for bell in (done, done + 1, done + 2, 100):
                plain = guest.twin()
                self.assertEqual(run.run(bell), run_plain(plain, bell))
                self.assertEqual(run.stand(), plain.stand())
            self.assertEqual((run.run(101), run.stand()[5]), (word, done))
            run = Turned(guest)
            self.assertEqual((run.run(100), run.stand()[5]), (word, done))
            self.lies(run, 0)

    def test_a_place_without_a_step(self):
        guest = self.guest("more 1", "jump 5")
        run = Turned(guest)
        self.assertEqual(run.run(2), "bell")
        self.lies(run, 0)
        for bell in (3, 100):
            self.assertEqual(run.run(bell), "none")
            self.lies(run, 0)
            self.assertEqual((run.stand()[3], run.stand()[5]), (8, 2))
        run = Turned(Guest(8, [255] * 256))
        self.assertEqual((run.run(1), told_of(run)), ("none", (Guest(8, [255] * 256).stand(), [], [])))
        # The code ends ahead of such a place, and is run to there.
        run = Turned(self.guest("more 1", "more 2"))
        self.assertEqual(run.run(9), "none")
        self.lies(run, 0)
        self.assertEqual(run.stand()[5], 2)

    def test_round_the_floors_end(self):
        floor = floor_with(code_of(8, "more 1", "more 2"), 254)
        floor[0:2] = code_of(8, "jump -4")
        run = Turned(Guest(8, floor, place=254))
        self.assertEqual(run.run(7), "bell")
        self.lies(run, 254, 0)
        self.assertEqual(run.stand()[0][1:3], [3, 2])
        self.assertEqual(run.run(8), "bell")
        self.lies(run, 254, 0, 255)
        self.assertEqual(run.ties(), [(0, 254), (254, 0), (255, 0)])

    def test_a_go_and_a_part(self):
        guest = self.guest("more 1", "cmpk 1 3", "jumpif 1 -5", "go 2", boxes=[0, 0, 0, 0, 0, 0, 0, 0])
        run, model = Turned(guest), Model(guest)
        for bell in range(0, 40, 3):
            self.like(run, model, run.run(bell), model.run(bell))

    def test_the_rows_laid_are_the_turned_ones(self):
        for width in WIDTHS:
            self.width = width
            guest = self.guest("put 1 5", "addk 1 3", "jumpif 0 2", "more 1", "jump -9")
            for most in range(1, 13):
                run = Turned(guest, most=most)
                run.run(30)
                for place, code, rows in run.shelf():
                    self.assertEqual(code, code_at(width, guest.floor, place, most))
                    self.assertEqual(rows, turned(width, place, code))


class Writes(TurnedTest):
    """[8.3]: what goes from the shelf."""

    def test_into_the_stretch_that_is_run(self):
        for width in WIDTHS:
            self.width = width
            # Bytes: 0 more, 1 set (to 4, more 1 becomes more 2), 4 more 1, 5 stop.
            guest = self.guest("more 3", "set 5 6 0", "more 1", "stop", boxes=[0, 0, 0, 0, 0, 106, 4, 0])
            run = Turned(guest)
            self.assertEqual(run.run(4), "stop")
            self.lies(run, 4)
            self.assertEqual(run.stand()[0], [0, 0, 1, 1, 0, 106, 4, 0])
            self.assertEqual(run.stand()[5], 3)
            self.assertEqual(run.ties(), [])

    def test_into_the_set_itself_and_behind_it(self):
        for goal in range(0, 9):
            guest = self.guest("more 3", "set 5 6 0", "more 1", "more 1", "stop",
                               boxes=[0, 0, 0, 0, 0, 106, goal, 0])
            plain = guest.twin()
            run, model = Turned(guest), Model(guest)
            told = run.run(6)
            self.like(run, model, told, model.run(6))
            self.assertEqual(run_plain(plain, 6), told)
            self.assertEqual(run.stand(), plain.stand())
            if goal < 7:
                self.assertNotIn(0, [place for place, code, rows in run.shelf()])
            else:
                self.lies(run, 0)

    def test_the_same_byte_again(self):
        for width in WIDTHS:
            self.width = width
            guest = self.guest("more 3", "set 5 6 0", "more 1", "stop", boxes=[0, 0, 0, 0, 0, 105, 4, 0])
            run = Turned(guest)
            self.assertEqual(run.run(4), "stop")
            self.lies(run, 4)
            self.assertEqual(run.stand()[2], guest.floor)

    def laid_ahead(self, goal, byte=None, **more):
        """A stretch at 20 to 24 lies on the shelf; at 0 one is run that writes to the goal."""
        floor = floor_with(code_of(self.width, "set 5 6 0", "more 1", "jump 5"))
        floor[20:25] = code_of(self.width, "more 2", "add 1 2", "jump 0")
        guest = Guest(self.width, floor, [0, 0, 0, 0, 0, floor[goal] if byte is None else byte, goal, 0])
        run, model = Turned(guest, **more), Model(guest, **more)
        run.lay(20, plain_rows(self.width, 20, floor[20:25]))
        model.lay(20)
        return run, model

    def test_into_another_one_just_ahead_and_just_behind(self):
        for width, goal in itertools.product(WIDTHS, range(14, 30)):
            self.width = width
            for byte in (None, 17):
                run, model = self.laid_ahead(goal, byte)
                self.like(run, model, run.run(3), model.run(3))
                if 20 <= goal < 25:
                    # The rows were left behind the set, so the rest was laid as one of its own.
                    self.lies(run, 0, 3)
                else:
                    self.lies(run, 20, 0)
                self.like(run, model, run.run(9), model.run(9))

    def test_by_a_plain_step(self):
        for width, goal in itertools.product(WIDTHS, range(14, 30)):
            self.width = width
            run, model = self.laid_ahead(goal)
            self.like(run, model, run.run(1), model.run(1))
            self.lies(run, *([0] if 20 <= goal < 25 else [20, 0]))
        for goal in range(6):
            run, model = self.laid_ahead(goal)
            self.like(run, model, run.run(1), model.run(1))
            self.lies(run, 20)

    def test_several_at_once(self):
        floor = floor_with(code_of(8, "set 5 6 0", "jump 5"))
        floor[20:24] = code_of(8, "more 2", "more 3", "more 4", "stop")
        guest = Guest(8, floor, [0, 0, 0, 0, 0, 111, 22, 0])
        for bell in (1, 2):
            run = Turned(guest)
            for place in (23, 20, 22, 21):
                run.lay(place, plain_rows(8, place, floor[place:24]))
            run.run(bell)
            self.lies(run, *([23, 0] if bell == 1 else [23, 0, 3]))

    def test_a_fault_writes_nothing(self):
        for width, wards, boxes in ((8, [1], [0, 0, 0, 0, 0, 105, 20, 0]), (16, None, [0, 0, 0, 0, 0, 105, 276, 0])):
            floor = floor_with(code_of(width, "more 1", "set 5 6 0", "jump 5"))
            floor[20:22] = code_of(width, "more 2", "stop")
            run = Turned(Guest(width, floor, boxes, None, wards))
            self.width = width
            run.lay(20, plain_rows(width, 20, floor[20:22]))
            self.assertEqual(run.run(9), "ward" if wards else "out")
            self.lies(run, 20, 0)
            self.assertEqual(run.run(2), "ward" if wards else "out")
            self.lies(run, 20, 0, 1)

    def test_a_get_drops_nothing(self):
        run = Turned(self.guest("get 1 2 0", "get 1 2 1", "jump -8"))
        run.run(12)
        self.lies(run, 0)

    def test_each_code_on_the_shelf_is_what_the_floor_has(self):
        draw = random.Random(83)
        for turn in range(60):
            self.width = draw.choice(WIDTHS)
            guest = drawn_program(draw, self.width)
            run = Turned(guest, draw.randrange(1, 9), draw.randrange(1, 13))
            for bell in range(0, 100, draw.randrange(1, 9)):
                run.run(bell)
                self.lies(run, *[place for place, code, rows in run.shelf()])


class Laid(TurnedTest):
    """[8.4]: rows from anywhere."""

    def refused(self, run, place, rows):
        wanted = told_of(run)
        with self.assertRaises(HostError, msg=(place, rows)) as caught:
            run.lay(place, rows)
        self.assertIs(caught.exception.__class__, NotShown)
        self.assertEqual(told_of(run), wanted)

    def test_rows_that_are_shown(self):
        for width in WIDTHS:
            self.width = width
            guest = self.guest("put 1 5", "add 1 2", "send 1", "stop")
            code = code_of(width, "put 1 5", "add 1 2", "send 1", "stop")
            for rows in (plain_rows(width, 0, code), turned(width, 0, code),
                         [("copy", 10, 2)] + plain_rows(width, 0, code)):
                run = Turned(guest)
                self.assertIsNone(run.lay(0, rows))
                self.assertEqual(run.shelf(), [(0, code, rows)])
                self.assertEqual(run.stand(), guest.stand())
                # These very rows are run, and none is laid anew.
                self.assertEqual(run.run(4), "stop")
                self.assertEqual(run.shelf(), [(0, code, rows)])
                self.assertEqual(run.stand()[4], [5])

    def test_rows_that_are_not(self):
        for width in WIDTHS:
            self.width = width
            guest = self.guest("put 1 5", "add 1 2", "stop")
            code = code_of(width, "put 1 5", "add 1 2", "stop")
            plain = plain_rows(width, 0, code)
            run = Turned(guest, most=3)
            run.lay(0, plain)
            for rows in (
                [], None, 5, "stop", tuple(plain), plain[:-1], plain[1:], plain + [("leave", 2, 0)], [("stop", 0, 0)],
                [("leave", 0, 0)], [("leave", 3, 0)], [("nothing",)], [["stop", 2, 0]], plain[:1] + plain[2:],
                plain_rows(width, 0, code_of(width, "put 1 6", "add 1 2", "stop")),
                plain_rows(width, 0, code_of(width, "put 1 5", "add 1 2")),
                plain * 30,
            ):
                self.refused(run, 0, rows)
            # Places at which no step begins, or none at all, and another one.
            for place in (len(code), 100, 255, 256, 300, -1, 1):
                self.refused(run, place, plain)
                self.refused(run, place, [("leave", 0, place % 256)])
            run.run(2)
            self.refused(run, 0, plain[:-1])

    def test_another_step_on_the_floor_by_now(self):
        guest = self.guest("set 5 6 0", "jump 1", "more 1", "more 1", boxes=[0, 0, 0, 0, 0, 106, 6, 0])
        for done in (0, 1):
            run = Turned(guest)
            run.run(done)
            rows = [plain_rows(8, 6, code_of(8, text)) for text in ("more 1", "more 2")]
            run.lay(6, rows[done])
            self.refused(run, 6, rows[1 - done])

    def test_one_at_the_same_place_goes(self):
        guest = self.guest("more 1", "jump -3", "more 2", "jump -3")
        codes = [code_of(8, "more 1", "jump -3"), code_of(8, "more 2", "jump -3")]
        run = Turned(guest)
        run.lay(0, plain_rows(8, 0, codes[0]))
        run.lay(3, plain_rows(8, 3, codes[1]))
        self.lies(run, 0, 3)
        run.lay(0, turned(8, 0, codes[0]))
        self.assertEqual(run.shelf(), [(3, codes[1], plain_rows(8, 3, codes[1])), (0, codes[0], turned(8, 0, codes[0]))])
        run.run(2)
        # One that is looked at, and one that is run, is as old as it was.
        run.lay(3, plain_rows(8, 3, codes[1]))
        run.run(8)
        self.lies(run, 0, 3)

    def test_at_the_bound_none_goes_for_one_at_its_own_place(self):
        guest = self.guest(*["jump 0"] * 9)
        for bound in range(1, 9):
            run = Turned(guest, bound)
            for place in range(0, 2 * bound, 2):
                run.lay(place, [("leave", 1, place + 2)])
            self.lies(run, *range(0, 2 * bound, 2))
            run.lay(0, [("put", 12, 3), ("leave", 1, 2)])
            self.lies(run, *range(2, 2 * bound, 2), 0)

    def test_the_oldest_goes(self):
        guest = self.guest(*["jump 0"] * 30)
        for bound in range(1, 9):
            run = Turned(guest, bound)
            for many, place in enumerate(range(0, 40, 2), 1):
                run.lay(place, [("leave", 1, place + 2)])
                self.lies(run, *range(max(0, place - 2 * bound + 2), place + 2, 2))
            run = Turned(guest, bound)
            run.run(20)
            self.lies(run, *range(40 - 2 * bound, 40, 2))
            run.lay(0, [("leave", 1, 2)])
            self.lies(run, *range(42 - 2 * bound, 40, 2), 0)

    def test_rows_of_a_code_of_more_steps_than_the_most(self):
        guest = self.guest(*["more 1"] * 5, "stop")
        rows = {many: plain_rows(8, 0, code_of(8, *["more 1"] * many)) for many in range(1, 6)}
        rows[6] = plain_rows(8, 0, code_of(8, *["more 1"] * 5, "stop"))
        for most in range(1, 13):
            run = Turned(guest, most=most)
            for many in rows:
                if many != min(most, 6):
                    self.refused(run, 0, rows[many])
            run.lay(0, rows[min(most, 6)])

    def test_laid_ones_keep_to_the_bell(self):
        guest = self.guest("more 1", "more 1", "more 1", "stop")
        for bell in range(1, 6):
            run, model = Turned(guest), Model(guest)
            run.lay(0, plain_rows(8, 0, code_of(8, "more 1", "more 1", "more 1", "stop")))
            model.lay(0)
            self.like(run, model, run.run(bell), model.run(bell))

    def test_what_is_done_behind_changes_nothing(self):
        guest = self.guest("more 1", "send 1", "jump -4")
        code = code_of(8, "more 1", "send 1", "jump -4")
        rows = plain_rows(8, 0, code)
        run = Turned(guest)
        run.lay(0, rows)
        wanted = (0, list(code), list(rows))
        rows.clear()
        self.assertEqual(run.shelf(), [wanted])
        rows += [("stop", 0, 0)]
        told = run.shelf()
        told[0][1].clear()
        told[0][2][:] = [("stop", 0, 0)]
        told.clear()
        self.assertEqual(run.shelf(), [wanted])
        run.stand()[0][1] = 77
        run.stand()[2][0] = 0
        run.stand()[4].append(5)
        self.assertEqual(run.stand(), guest.stand())
        self.assertEqual(run.run(6), "bell")
        self.assertEqual(run.stand()[4], [1, 2])
        self.assertEqual(run.shelf(), [wanted])
        ties = run.ties()
        ties.append((9, 9))
        self.assertEqual(run.ties(), [(0, 0)])

    def test_told_new_each_time(self):
        run = Turned(self.guest("more 1", "send 1", "jump -4"))
        run.run(9)
        for tell in (run.shelf, run.ties):
            self.assertEqual(tell(), tell())
            self.assertIsNot(tell(), tell())
        for part in (1, 2):
            self.assertIsNot(run.shelf()[0][part], run.shelf()[0][part])
        for part in (0, 2, 4):
            self.assertIsNot(run.stand()[part], run.stand()[part])


class Ties(TurnedTest):
    """[8.5]."""

    def test_from_a_place_to_itself(self):
        run = Turned(self.guest("more 1", "jump -3"))
        self.assertEqual(run.run(1), "bell")
        self.assertEqual(run.ties(), [])
        run = Turned(self.guest("more 1", "jump -3"))
        self.assertEqual(run.run(2), "bell")
        self.assertEqual(run.ties(), [(0, 0)])
        self.assertEqual(run.run(20), "bell")
        self.assertEqual(run.ties(), [(0, 0)])

    def test_to_one_that_lies_there_alone(self):
        run = Turned(self.guest("jump 3", "jump 3", "stop", "jump -5"))
        # 0 goes to 5, 5 to 2 (jump -5 at 5: behind it is 7, less 5), 2 to 7: no step there.
        self.assertEqual(run.run(9), "none")
        self.lies(run, 0, 5, 2)
        self.assertEqual(run.ties(), [])

    def test_a_round_of_three(self):
        # 0 to 10, 10 to 20, 20 to 0.
        floor = floor_with(code_of(8, "jump 8"))
        floor[10:12] = code_of(8, "jump 8")
        floor[20:22] = code_of(8, "jump -22")
        run = Turned(Guest(8, floor))
        for bell, ties in ((1, []), (2, []), (3, [(20, 0)]), (4, [(0, 10), (20, 0)]),
                           (5, [(0, 10), (10, 20), (20, 0)]), (6, [(0, 10), (10, 20), (20, 0)])):
            self.assertEqual(run.run(bell), "bell")
            self.assertEqual(run.ties(), ties)
        for tie in run.ties():
            self.assertIsInstance(tie, tuple)
        # With a bound of two each one that goes takes its ties along.
        run = Turned(Guest(8, floor), 2)
        for bell in range(12):
            run.run(bell)
            self.assertEqual(run.ties(), [])

    def round_of(self, run, floor):
        """The three stretches of a round are laid, and tied."""
        self.assertEqual(run.run(6), "bell")
        self.assertEqual(run.ties(), [(0, 10), (10, 20), (20, 0)])

    def round_floor(self):
        floor = floor_with(code_of(8, "jump 8"))
        floor[10:12] = code_of(8, "jump 8")
        floor[20:22] = code_of(8, "jump -22")
        floor[30:33] = code_of(8, "jump 0", "stop")
        return floor

    def test_gone_by_laying_anew(self):
        for place, ties in ((0, [(10, 20)]), (10, [(20, 0)]), (20, [(0, 10)])):
            floor = self.round_floor()
            run = Turned(Guest(8, floor))
            self.round_of(run, floor)
            run.lay(place, plain_rows(8, place, floor[place:place + 2]))
            self.assertEqual(run.ties(), ties)
            run.lay(30, [("leave", 1, 32)])
            self.assertEqual(run.ties(), ties)

    def test_refused_rows_leave_them(self):
        floor = self.round_floor()
        run = Turned(Guest(8, floor))
        self.round_of(run, floor)
        for place in (0, 10, 20):
            with self.assertRaises(NotShown):
                run.lay(place, [("stop", 0, place)])
        self.assertEqual(run.ties(), [(0, 10), (10, 20), (20, 0)])

    def test_gone_by_the_bound(self):
        floor = self.round_floor()
        run = Turned(Guest(8, floor), 3)
        self.round_of(run, floor)
        run.lay(30, [("leave", 1, 32)])
        self.lies(run, 10, 20, 30)
        self.assertEqual(run.ties(), [(10, 20)])
        run.lay(32, [("stop", 0, 32)])
        self.assertEqual(run.ties(), [])

    def test_gone_by_a_write(self):
        # A round of 0 and 10; the fourth time 0 is left to a set that writes into one of both.
        for goal, byte, is_plain in itertools.product((0, 1, 2, 10, 11, 50), (None, 104), (True, False)):
            floor = floor_with(code_of(8, "more 1", "cmpk 1 4", "jumpif 0 20", "jump 3"))
            floor[10:12] = code_of(8, "jump -12")
            floor[25:29] = code_of(8, "set 5 6 0", "stop")
            guest = Guest(8, floor, [0, 0, 0, 0, 0, floor[goal] if byte is None else byte, goal, 0])
            run, model = Turned(guest), Model(guest)
            self.like(run, model, run.run(14), model.run(14))
            self.assertNotEqual(run.ties(), [])
            for bell in (15, 16, 17, 18) if is_plain else (40,):
                self.like(run, model, run.run(bell), model.run(bell))
            told = [place for place, code, rows in run.shelf()]
            for tie in run.ties():
                self.assertIn(tie[0], told)
                self.assertIn(tie[1], told)

    def test_left_by_the_watch_to_one_that_lies_there(self):
        # 0 writes into the stretch at 40; it is left to 3, where one lies: a tie, though 0 was not run to its end.
        floor = floor_with(code_of(8, "set 5 6 0", "more 1", "stop"))
        floor[40:42] = code_of(8, "more 2", "stop")
        run = Turned(Guest(8, floor, [0, 0, 0, 0, 0, 106, 40, 0]))
        run.lay(40, plain_rows(8, 40, floor[40:42]))
        run.lay(3, plain_rows(8, 3, floor[3:5]))
        self.assertEqual(run.run(3), "stop")
        self.lies(run, 3, 0)
        self.assertEqual(run.ties(), [(0, 3)])

    def test_left_by_the_watch_from_one_that_went(self):
        floor = floor_with(code_of(8, "set 5 6 0", "more 1", "stop"))
        run = Turned(Guest(8, floor, [0, 0, 0, 0, 0, 187, 0, 0]))
        run.lay(3, plain_rows(8, 3, floor[3:5]))
        self.assertEqual(run.run(3), "stop")
        self.lies(run, 3)
        self.assertEqual(run.ties(), [])

    def test_one_that_tied_goes_by_its_own_write(self):
        # A loop that writes into the stretch that it goes to.
        floor = floor_with(code_of(8, "more 1", "set 5 6 0", "jump 4"))
        floor[10:13] = code_of(8, "more 2", "jump -13")
        guest = Guest(8, floor, [0, 0, 0, 0, 0, 106, 10, 0])
        run, model = Turned(guest), Model(guest)
        for bell in range(0, 60, 5):
            self.like(run, model, run.run(bell), model.run(bell))

    def test_no_tie_by_a_plain_step(self):
        run = Turned(self.guest("more 1", "more 2", "jump -4"))
        for bell in (1, 2, 3, 4):
            run.run(bell)
        self.lies(run, 0, 1, 2)
        # At 2 the jump was one whole stretch, and went to 0, where one lay.
        self.assertEqual(run.ties(), [(2, 0)])

    def test_stops_and_faults_make_none(self):
        run = Turned(self.guest("more 1", "stop"))
        run.lay(1, [("stop", 0, 1)])
        self.assertEqual(run.run(9), "stop")
        self.assertEqual(run.ties(), [])
        run = Turned(self.guest("more 1", "set 2 3 0", "stop", wards=[0]))
        run.lay(1, plain_rows(8, 1, code_of(8, "set 2 3 0", "stop")))
        self.assertEqual(run.run(9), "ward")
        self.assertEqual(run.ties(), [])

    def test_told_sorted(self):
        draw = random.Random(85)
        most = 0
        for turn in range(80):
            run = Turned(drawn_program(draw, 8), most=draw.randrange(1, 4))
            run.run(150)
            self.assertEqual(run.ties(), sorted(set(run.ties())))
            most = max(most, len(run.ties()))
        self.assertGreater(most, 4)


class Alike(TurnedTest):
    """[8.6], [0.3]: at each bell, fault and stop as the plain run; and the shelf as the document tells."""

    def bells(self, draw):
        bell = 0
        for turn in range(draw.randrange(3, 15)):
            bell += draw.choice((0, 1, 1, 2, 3, 7, 12, 13, 30))
            yield bell

    def check(self, draw, guest, bound, most, lays):
        run, model, plain = Turned(guest, bound, most), Model(guest, bound, most), guest.twin()
        for bell in self.bells(draw):
            for turn in range(lays):
                self.lay_drawn(draw, run, model)
            told = run.run(bell)
            self.assertEqual(told, run_plain(plain, bell))
            self.assertEqual(run.stand(), plain.stand())
            self.like(run, model, told, model.run(bell))
        return plain.done, told, plain.floor != guest.floor

    def lay_drawn(self, draw, run, model):
        """Rows are laid at a drawn place, often at the one where the guest is."""
        width, floor = model.guest.width, model.guest.floor
        near = [place for place, code in model.lying]
        place = draw.choice([model.guest.place, draw.randrange(256), *near])
        code = code_at(width, floor, place, model.most)
        if not code:
            return
        rows = with_fillers(draw, width, draw.choice((plain_rows, turned))(width, place, code), draw.randrange(4))
        if draw.randrange(3) == 0:
            rows.pop(draw.randrange(len(rows)))
        if shown(width, place, code, rows):
            run.lay(place, rows)
            model.lay(place)
            self.assertEqual(run.shelf()[-1], (place, code, rows))
        else:
            wanted = told_of(run)
            self.assertRaises(NotShown, run.lay, place, rows)
            self.assertEqual(told_of(run), wanted)

    def test_each_bound_and_most(self):
        draw = random.Random(91)
        words, changed, done = set(), 0, 0
        for bound, most, width in itertools.product(range(1, 9), range(1, 13), WIDTHS):
            many, word, is_changed = self.check(draw, drawn_program(draw, width), bound, most, 0)
            words.add(word)
            changed += is_changed
            done += many
        # The drawn guests come to all ends, go on for long, and write over their bytes.
        self.assertEqual(words, {"bell", "none", "out", "stop", "ward"})
        self.assertGreater(changed, 150)
        self.assertGreater(done, 5000)

    def test_with_rows_laid_ahead_of_any_bell(self):
        draw = random.Random(92)
        for bound, most, width in itertools.product(range(1, 9), range(1, 13), WIDTHS):
            self.check(draw, drawn_program(draw, width), bound, most, 2)

    def test_with_all_left_out(self):
        draw = random.Random(93)
        for turn in range(100):
            guest = drawn_program(draw, draw.choice(WIDTHS))
            run, plain = Turned(guest), guest.twin()
            for bell in self.bells(draw):
                self.assertEqual(run.run(bell), run_plain(plain, bell))
                self.assertEqual(run.stand(), plain.stand())

    def test_floors_of_drawn_bytes(self):
        draw = random.Random(94)
        for turn in range(200):
            width = draw.choice(WIDTHS)
            floor = [draw.choice((draw.randrange(256), draw.randrange(200), draw.randrange(8))) for byte in range(256)]
            guest = Guest(width, floor, [draw.randrange(256) for box in range(8)], None, None, draw.randrange(256))
            self.check(draw, guest, draw.randrange(1, 9), draw.randrange(1, 13), turn % 2)

    def test_on_for_two_thousand_steps(self):
        # A loop that writes its way over the floor, its own steps among it.
        guest = self.guest("more 6", "set 5 6 0", "addk 5 1", "jump -8", boxes=[0, 0, 0, 0, 0, 104, 9, 0])
        run, plain = Turned(guest), guest.twin()
        for bell in (1000, 1001, 2000, 2500):
            self.assertEqual(run.run(bell), run_plain(plain, bell))
            self.assertEqual(run.stand(), plain.stand())


if __name__ == "__main__":
    unittest.main()
