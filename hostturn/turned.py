"""The turned run: a guest that goes on by the stretches of a shelf."""

from hostturn.checker import shown
from hostturn.codes import step_at
from hostturn.errors import BadShelf, NotShown
from hostturn.house import run_rows
from hostturn.plain import address_of, step
from hostturn.plainrows import code_at, code_steps
from hostturn.turner import turned
from hostturn.words import is_between

MOST_STRETCHES = 8
MOST_STEPS = 12


def written_address(guest):
    """The address to which the guest's step writes, if it is done; None where it writes nothing."""
    found = step_at(guest.width, guest.floor, guest.place)
    if found is None or found.word() != "set":
        return None
    return address_of(guest, found.numbers)


class Turned:
    """A guest of its own, with a shelf of stretches by which it is run."""

    def __init__(self, guest, bound=8, most=12):
        if not is_between(bound, 1, MOST_STRETCHES) or not is_between(most, 1, MOST_STEPS):
            raise BadShelf("a shelf has a bound from 1 to 8 and a most from 1 to 12")
        self.guest = guest.twin()
        self.bound = bound
        self.most = most
        # By their places, the oldest first: tuples (code, rows, how many steps the code has).
        self.stretches = {}
        self.pairs = {}

    def run(self, bell):
        """Runs to the bell ("bell"), or till something tells anything but "on"."""
        while self.guest.done < bell:
            word = self.go_on(bell)
            if word != "on":
                return word
        return "bell"

    def stand(self):
        """How the run's own guest stands."""
        return self.guest.stand()

    def shelf(self):
        """The stretches as tuples (place, code, rows), the oldest first."""
        return [(place, list(held[0]), list(held[1])) for place, held in self.stretches.items()]

    def ties(self):
        """The ties as pairs of places, sorted."""
        return sorted(self.pairs)

    def lay(self, place, rows):
        """Lays rows at a place, where they are shown for the code that is there."""
        code = self.code_here(place)
        if not shown(self.guest.width, place, code, rows):
            raise NotShown("these rows aren't shown for the code at this place")
        self.lay_stretch(place, code, list(rows))

    def code_here(self, place):
        """The code at a place of the floor, of no more steps than a stretch may have."""
        return code_at(self.guest.width, self.guest.floor, place, self.most)

    def lay_stretch(self, place, code, rows):
        """Lays a stretch as the newest one; one at the same place goes, and the oldest if there are too many."""
        if place in self.stretches:
            self.drop(place)
        self.stretches[place] = (code, rows, len(code_steps(self.guest.width, place, code)))
        if len(self.stretches) > self.bound:
            self.drop(list(self.stretches)[0])

    def drop(self, place):
        """The stretch at the place goes from the shelf, and its ties with it."""
        self.stretches.pop(place)
        for pair in list(self.pairs):
            if place in pair:
                self.pairs.pop(pair)

    def drop_written(self, address):
        """All stretches whose code has the address go from the shelf; True where there was one."""
        gone = [place for place, held in self.stretches.items() if place <= address < place + len(held[0])]
        for place in gone:
            self.drop(place)
        return len(gone) > 0

    def go_on(self, bell):
        """Runs the rows of the stretch at the guest's place, or one plain step: the word told."""
        place = self.guest.place
        if place not in self.stretches:
            self.lay_turned(place)
        if place in self.stretches and self.stretches[place][2] <= bell - self.guest.done:
            return self.run_stretch(place)
        return self.run_step()

    def lay_turned(self, place):
        """Lays the code at the place and its turned rows, where a step begins there."""
        code = self.code_here(place)
        if len(code) > 0:
            self.lay_stretch(place, code, turned(self.guest.width, place, code))

    def run_stretch(self, place):
        """Runs the rows of a stretch, and ties it to the one to which it was left."""
        # Where the watch says yes it drops what was written over: the rows end there, so nothing else is asked.
        end = run_rows(self.guest, self.stretches[place][1], lambda address: self.drop_written(address))
        if end[0] == "on" and place in self.stretches and end[2] in self.stretches:
            self.pairs[(place, end[2])] = True
        return end[0]

    def run_step(self):
        """One plain step."""
        address = written_address(self.guest)
        word = step(self.guest)
        if word == "on" and address is not None:
            self.drop_written(address)
        return word
