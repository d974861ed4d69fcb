"""The guest's steps: each kind a class of its own, right under Step."""

# Each kind's word; its place here is the kind's number.
KIND_WORDS = (
    "stop", "put", "copy", "add", "sub", "and", "or", "xor", "cmp", "addc", "subc", "addk", "cmpk",
    "more", "fewer", "left", "right", "not", "get", "set", "send", "jump", "jumpif", "go", "mark",
)


def bytes_of(numbers):
    """A byte for each number; one below 0 has 256 put to it."""
    return [number % 256 for number in numbers]


class Step:
    """A guest step; it is always made as one of the kinds below, never by itself."""

    def __init__(self, numbers):
        # A list of its own, so that what becomes of the one handed in changes no step.
        self.numbers = list(numbers)

    def word(self):
        """The kind's word; each kind tells its own."""
        return ""

    def text(self):
        """The word and the numbers, with one blank between."""
        return " ".join([self.word()] + [str(number) for number in self.numbers])

    def size(self, width):
        """How many bytes the step's code has at the width."""
        return len(self.code(width))

    def code(self, width):
        """The step's bytes at the width, a new list each time."""
        return [8 * KIND_WORDS.index(self.word()) + self.low()] + self.tail(width)

    def low(self):
        """What the first byte holds beside the kind's number."""
        return self.numbers[0]

    def tail(self, width):
        """The bytes behind the first one; the width counts for put alone."""
        return bytes_of(self.numbers[1:])


class Stop(Step):
    """stop: the guest ends here."""

    def word(self):
        return "stop"

    def low(self):
        """Nothing: a stop has no numbers."""
        return 0


class Put(Step):
    """put r K: box r is K."""

    def word(self):
        return "put"

    def tail(self, width):
        """The bytes of K, as many as the width has, the lowest first."""
        told = []
        rest = self.numbers[1]
        for turn in range(width // 8):
            told.append(rest % 256)
            rest = rest // 256
        return told


class Copy(Step):
    """copy r s: box r is box s."""

    def word(self):
        return "copy"


class Add(Step):
    """add r s: box s is put to box r."""

    def word(self):
        return "add"


class Sub(Step):
    """sub r s: box s is taken from box r."""

    def word(self):
        return "sub"


class And(Step):
    """and r s: box r is both, bit by bit."""

    def word(self):
        return "and"


class Or(Step):
    """or r s: box r is either, bit by bit."""

    def word(self):
        return "or"


class Xor(Step):
    """xor r s: box r is just one of both, bit by bit."""

    def word(self):
        return "xor"


class Cmp(Step):
    """cmp r s: sub's record alone."""

    def word(self):
        return "cmp"


class AddC(Step):
    """addc r s: add, and the carry."""

    def word(self):
        return "addc"


class SubC(Step):
    """subc r s: sub, and the carry."""

    def word(self):
        return "subc"


class AddK(Step):
    """addk r k: a small number is put to box r."""

    def word(self):
        return "addk"


class CmpK(Step):
    """cmpk r k: the record of box r less a small number."""

    def word(self):
        return "cmpk"


class More(Step):
    """more r: box r is one more."""

    def word(self):
        return "more"


class Fewer(Step):
    """fewer r: box r is one less."""

    def word(self):
        return "fewer"


class Left(Step):
    """left r: box r is twice as much."""

    def word(self):
        return "left"


class Right(Step):
    """right r: box r is half of it."""

    def word(self):
        return "right"


class Not(Step):
    """not r: each bit of box r is turned."""

    def word(self):
        return "not"


class Get(Step):
    """get r s d: box r is the byte at box s and d."""

    def word(self):
        return "get"


class Set(Step):
    """set r s d: the byte at box s and d is box r."""

    def word(self):
        return "set"


class Send(Step):
    """send r: box r is sent out."""

    def word(self):
        return "send"


class Jump(Step):
    """jump d: on at a distance."""

    def word(self):
        return "jump"

    def low(self):
        """Nothing: a leap is too wide for the first byte."""
        return 0

    def tail(self, width):
        """The leap, though it is the first number."""
        return bytes_of(self.numbers)


class JumpIf(Step):
    """jumpif ask d: on at a distance where the ask is 1."""

    def word(self):
        return "jumpif"


class Go(Step):
    """go r: on at the place in box r."""

    def word(self):
        return "go"


class Mark(Step):
    """mark r ask: box r is the ask, 1 or 0."""

    def word(self):
        return "mark"
