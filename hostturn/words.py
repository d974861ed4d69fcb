"""Numbers of a width, marks and asks, and what the house reckons."""

KINDS = ("bits", "sum", "less", "logic", "left", "right", "more", "fewer")

# How many numbers a width has: these are written out, as no power of a named number may stand here.
SPANS = {8: 256, 16: 65536, 32: 4294967296}

# The ask that tells the carry.
CARRY = 4

USED = {
    "bits": (0,),
    "sum": (0, 1, 2),
    "less": (0, 1, 2),
    "logic": (0,),
    "left": (0,),
    "right": (0,),
    "more": (0, 2),
    "fewer": (0, 2),
}


def is_between(thing, least, greatest):
    """True just where the thing is a whole number, and no truth, of these bounds."""
    return isinstance(thing, int) and not isinstance(thing, bool) and least <= thing <= greatest


def is_number(width, thing):
    """True just where the thing is a number of the width."""
    return is_between(thing, 0, SPANS[width] - 1)


def fit(width, number):
    """The number of the width that is the same but for a multiple of what the width holds."""
    return number % SPANS[width]


def signed(width, number):
    """A number of the width, those of its upper half told as below 0."""
    span = SPANS[width]
    return number - span if number >= span // 2 else number


def is_over(width, number):
    """1 where a signed result is out of the width's signed bounds, else 0."""
    half = SPANS[width] // 2
    return 1 if number < -half or number > half - 1 else 0


def result_marks(width, result, carry, over):
    """Marks whose nought and sign come from a result that needn't be fitted yet."""
    fitted = fit(width, result)
    nought = 1 if fitted == 0 else 0
    sign = 1 if fitted >= SPANS[width] // 2 else 0
    return (nought, sign, carry, over)


def sum_marks(width, a, b, k):
    """The marks of a and b and k put together."""
    result = a + b + k
    carry = 1 if result >= SPANS[width] else 0
    over = is_over(width, signed(width, a) + signed(width, b) + k)
    return result_marks(width, result, carry, over)


def less_marks(width, a, b, k):
    """The marks of a less b less k."""
    result = a - b - k
    carry = 1 if result < 0 else 0
    over = is_over(width, signed(width, a) - signed(width, b) - k)
    return result_marks(width, result, carry, over)


def bits_marks(a):
    """The marks that are the four lowest bits of a."""
    return (a % 2, a // 2 % 2, a // 4 % 2, a // 8 % 2)


def with_carry(marks, carry):
    """The same marks, but for the carry."""
    return (marks[0], marks[1], carry, marks[3])


def marks_of(width, record):
    """The marks (nought, sign, carry, over) that come from a record (kind, a, b, c)."""
    kind = record[0]
    a = record[1]
    # b and c are taken out only where the kind uses them: elsewhere they may change no mark.
    if kind == "bits":
        return bits_marks(a)
    if kind == "sum":
        return sum_marks(width, a, record[2], record[3] % 2)
    if kind == "less":
        return less_marks(width, a, record[2], record[3] % 2)
    if kind == "logic":
        return result_marks(width, a, 0, 0)
    if kind == "left":
        return result_marks(width, a + a, a // (SPANS[width] // 2) % 2, 0)
    if kind == "right":
        return result_marks(width, a // 2, a % 2, 0)
    if kind == "more":
        return with_carry(sum_marks(width, a, 1, 0), record[3] % 2)
    return with_carry(less_marks(width, a, 1, 0), record[3] % 2)


def used(kind):
    """Which of a record's three numbers the kind uses, as a tuple of places, rising."""
    return USED[kind]


def asked(marks, ask):
    """What an ask from 0 to 7 tells of marks: 0 or 1."""
    mark = marks[ask // 2]
    # Of the two asks for a mark the second one is its opposite.
    return mark if ask % 2 == 0 else 1 - mark


def reckoned(width, word, one, other):
    """What the house reckons by a word; not, left and right don't look at the other number."""
    return fit(width, unfitted(word, one, other))


def unfitted(word, one, other):
    """What a word makes of the numbers, ahead of fitting."""
    if word == "not":
        # Fitted, this has each bit of the width turned.
        return -1 - one
    if word == "left":
        return one + one
    if word == "right":
        return one // 2
    return unfitted_of_two(word, one, other)


def unfitted_of_two(word, one, other):
    """What a word that looks at both numbers makes of them, ahead of fitting."""
    if word == "add":
        return one + other
    if word == "sub":
        return one - other
    if word == "and":
        return one & other
    if word == "or":
        return one | other
    return one ^ other
