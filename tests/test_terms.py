"""Stage 5, [5.1] to [5.4], and [0.2]: terms, what they come to, which are one, how many a table takes."""

import itertools
import random
import unittest

from hostturn.errors import HostError, TooMany
from hostturn.terms import Terms
from hostturn.words import KINDS, asked, marks_of, reckoned, used
from samples import WIDTHS, Whole, edges, is_whole, patterns

ONES = ("not", "left", "right")
TWOS = ("add", "sub", "and", "or", "xor")
EITHER_ORDER = ("add", "and", "or", "xor")


def x_and_y(table):
    return table.unknown("x", 0), table.unknown("y", 0)


def given_of(*numbers):
    """Numbers for x, y, z and so on."""
    return {(name, 0): number for name, number in zip("xyzuvw", numbers)}


def things(table):
    """Terms of every sort that may stand for x: unknown ones and made ones, none of them a number."""
    x, y = x_and_y(table)
    for term in (x, y, table.unknown("x", 1), table.unknown("x", -1), table.unknown("", 0)):
        yield term
    for word in ONES:
        yield table.make(word, x)
        yield table.make(word, table.make("left", y))
    for word in TWOS:
        yield table.make(word, x, y)
        yield table.make(word, y, table.number(3))
        yield table.make(word, table.number(5), y)
        yield table.make(word, table.make("not", x), table.make("add", y, table.number(-7)))
    for kind in KINDS:
        yield table.mark(0, (kind, x, y, x))
        yield table.mark(7, (kind, table.make("add", x, y), y, table.number(1)))
    yield table.make("add", x, x)


class TermsTest(Whole):
    def comes_to(self, table, term, given, wanted):
        """What the term comes to, told twice; the dict stays."""
        kept = dict(given)
        for turn in range(2):
            self.assertWhole(table.value(term, given), wanted)
        self.assertEqual(given, kept)
        self.assertTrue(is_whole(term))


class Values(TermsTest):
    def test_numbers(self):
        for width in WIDTHS:
            table = Terms(width)
            for number in patterns(width):
                self.comes_to(table, table.number(number), {}, number)
                self.comes_to(table, table.number(number - 2 ** width), {}, number)
                self.comes_to(table, table.number(number + 5 * 2 ** width), {}, number)

    def test_numbers_of_twenty_figures(self):
        for width, whole in itertools.product(WIDTHS, (10 ** 20 - 1, 1 - 10 ** 20, -1, -2 ** 31, 2 ** 64)):
            table = Terms(width)
            self.comes_to(table, table.number(whole), {}, whole % 2 ** width)

    def test_unknown_ones(self):
        for width in WIDTHS:
            table = Terms(width)
            names = list(itertools.product(("x", "box", "", "a b", "number"), (0, 1, -1, 15, 10 ** 9)))
            terms = [table.unknown(name, which) for name, which in names]
            self.assertEqual(len(set(terms)), len(names))
            for offset in range(len(names)):
                given = {name: patterns(width)[(place + offset) % 13] for place, name in enumerate(names)}
                for name, term in zip(names, terms):
                    self.comes_to(table, term, given, given[name])

    def test_only_the_unknown_ones_of_which_it_is_made_are_asked_for(self):
        table = Terms(16)
        x, y = x_and_y(table)
        table.make("add", x, y)
        self.comes_to(table, table.make("not", y), {("y", 0): 1}, 65534)
        self.comes_to(table, table.number(3), {}, 3)

    def test_each_word_of_one(self):
        for width, word in itertools.product(WIDTHS, ONES):
            table = Terms(width)
            term = table.make(word, table.unknown("x", 0))
            self.assertEqual(table.make(word, table.unknown("x", 0), None), term)
            for number in patterns(width):
                wanted = {"not": 2 ** width - 1 - number, "left": number * 2 % 2 ** width, "right": number // 2}
                self.comes_to(table, term, given_of(number), wanted[word])
                self.comes_to(table, table.make(word, table.number(number)), {}, wanted[word])

    def test_each_word_of_two(self):
        for width, word in itertools.product(WIDTHS, TWOS):
            table = Terms(width)
            x, y = x_and_y(table)
            term = table.make(word, x, y)
            for one, other in itertools.product(patterns(width), repeat=2):
                wanted = {
                    "add": (one + other) % 2 ** width, "sub": (one - other) % 2 ** width, "and": one & other,
                    "or": one | other, "xor": one ^ other,
                }[word]
                self.comes_to(table, term, given_of(one, other), wanted)
                first, second = table.number(one), table.number(other)
                self.comes_to(table, table.make(word, first, second), {}, wanted)
                self.comes_to(table, table.make(word, x, second), given_of(one), wanted)
                self.comes_to(table, table.make(word, first, y), given_of(0, other), wanted)

    def test_a_word_of_two_with_one_term_twice(self):
        for width in WIDTHS:
            table = Terms(width)
            x = table.unknown("x", 0)
            for number in patterns(width):
                for word, wanted in (("add", number * 2 % 2 ** width), ("sub", 0), ("and", number),
                                     ("or", number), ("xor", 0)):
                    self.comes_to(table, table.make(word, x, x), given_of(number), wanted)

    def test_the_mark_of_each_kind_and_ask(self):
        for width, kind, ask in itertools.product(WIDTHS, KINDS, range(8)):
            table = Terms(width)
            terms = [table.unknown(name, 0) for name in "xyz"]
            term = table.mark(ask, (kind, *terms))
            for numbers in itertools.product(edges(width), edges(width), (0, 1, 2, 2 ** width - 1)):
                wanted = asked(marks_of(width, (kind, *numbers)), ask)
                self.assertWhole(table.value(term, given_of(*numbers)), wanted)

    def test_the_mark_with_numbers_in_some_places(self):
        for width, kind, ask in itertools.product(WIDTHS, KINDS, range(8)):
            table = Terms(width)
            terms = [table.unknown(name, 0) for name in "xyz"]
            half = 2 ** (width - 1)
            for numbers in itertools.product((0, 5, half - 1, half, 2 * half - 1), (0, 1, half), (0, 1, 6)):
                wanted = asked(marks_of(width, (kind, *numbers)), ask)
                for places in itertools.product((0, 1), repeat=3):
                    parts = [table.number(number) if known else term
                             for known, number, term in zip(places, numbers, terms)]
                    self.assertWhole(table.value(table.mark(ask, (kind, *parts)), given_of(*numbers)), wanted)

    def test_the_mark_of_made_terms(self):
        for width, kind, ask in itertools.product(WIDTHS, KINDS, range(8)):
            table = Terms(width)
            x, y = x_and_y(table)
            parts = (table.make("sub", x, y), table.make("not", y), table.mark(4, ("sum", x, y, table.number(0))))
            term = table.mark(ask, (kind, *parts))
            for one, other in itertools.product(edges(width), repeat=2):
                numbers = ((one - other) % 2 ** width, 2 ** width - 1 - other, int(one + other >= 2 ** width))
                wanted = asked(marks_of(width, (kind, *numbers)), ask)
                self.assertWhole(table.value(term, given_of(one, other)), wanted)

    def test_the_documents_example_of_marks(self):
        table = Terms(8)
        x, y = x_and_y(table)
        record = ("sum", x, y, table.number(0))
        for ask, wanted in enumerate((0, 1, 0, 1, 1, 0, 0, 1)):
            self.comes_to(table, table.mark(ask, record), given_of(200, 100), wanted)

    def test_two_tables_beside_one_another(self):
        for first, second in itertools.product(WIDTHS, repeat=2):
            one, other = Terms(first), Terms(second)
            other.number(77)
            ahead = [table.make("sub", *x_and_y(table)) for table in (one, other)]
            one.make("and", one.unknown("z", 0), one.number(4))
            for table, term, width in ((one, ahead[0], first), (other, ahead[1], second)):
                self.comes_to(table, term, given_of(3, 5), 2 ** width - 2)
                self.comes_to(table, table.make("sub", *x_and_y(table)), given_of(3, 5), 2 ** width - 2)

    def test_a_record_or_dict_changed_behind_changes_nothing(self):
        table = Terms(8)
        x, y = x_and_y(table)
        term = table.mark(0, ("less", x, y, table.number(0)))
        given = given_of(4, 4)
        self.comes_to(table, term, given, 1)
        given[("x", 0)] = 5
        self.comes_to(table, term, given, 0)


class Deep(TermsTest):
    """Terms of terms, shared very often: each is reckoned once, so there is no delay."""

    def test_doubled_over_and_over(self):
        for width in WIDTHS:
            for word in ("add", "and", "xor"):
                table = Terms(width)
                x, y = x_and_y(table)
                number = 3
                for turn in range(90):
                    # Both terms are made of the one below, twice each.
                    x = table.make("add", table.make(word, x, y), table.make("not", x))
                    number = reckoned(width, "add", reckoned(width, word, number, 5),
                                      reckoned(width, "not", number, 0))
                self.comes_to(table, x, given_of(3, 5), number)

    def test_left_a_thousand_deep(self):
        for width in WIDTHS:
            table = Terms(width)
            x, y = x_and_y(table)
            number = 1
            for turn in range(1000):
                x = table.make("add", table.make("left", x), y)
                number = (2 * number + 7) % 2 ** width
            self.comes_to(table, x, given_of(1, 7), number)

    def test_marks_of_marks(self):
        for width in WIDTHS:
            table = Terms(width)
            x, y = x_and_y(table)
            carry, wanted = table.mark(4, ("sum", x, y, table.number(0))), 1
            for turn in range(300):
                ask = turn % 8
                carry = table.mark(ask, ("less", carry, carry, carry))
                wanted = asked(marks_of(width, ("less", wanted, wanted, wanted)), ask)
            self.comes_to(table, carry, given_of(2 ** width - 1, 1), wanted)

    def test_added_to_itself(self):
        for width in WIDTHS:
            table = Terms(width)
            term = table.unknown("x", 0)
            for turn in range(width - 1):
                term = table.make("add", term, term)
            self.comes_to(table, term, given_of(3), 2 ** (width - 1))
            self.comes_to(table, table.make("add", term, term), given_of(3), 0)


class Same(TermsTest):
    def each(self):
        """Each width with a table and each term that may stand for x."""
        for width in WIDTHS:
            table = Terms(width)
            for x in list(things(table)):
                yield width, table, x

    def test_made_again_of_the_same_ones(self):
        for width in WIDTHS:
            table = Terms(width)
            self.assertEqual(list(things(table)), list(things(table)))

    def test_a_number_by_its_remainder(self):
        for width in WIDTHS:
            table = Terms(width)
            span = 2 ** width
            for number in patterns(width):
                term = table.number(number)
                for whole in (number + span, number - span, number + 3 * span, number - 100 * span):
                    self.assertEqual(table.number(whole), term)
            self.assertEqual(len({table.number(number) for number in edges(width)}), len(edges(width)))

    def test_unlike_unknown_ones(self):
        table = Terms(8)
        names = [("x", 0), ("x", 1), ("y", 0), ("x", -1), ("X", 0), ("x ", 0), ("", 0), ("", 1)]
        self.assertEqual(len({table.unknown(name, which) for name, which in names}), len(names))
        self.assertEqual(table.unknown("x", 1), table.unknown("x", 1))

    def test_what_is_reckoned_from_numbers_alone(self):
        for width in WIDTHS:
            table = Terms(width)
            span = 2 ** width
            for one in patterns(width):
                for word in ONES:
                    wanted = table.number(reckoned(width, word, one, 0))
                    self.assertEqual(table.make(word, table.number(one - span)), wanted)
                for word, other in itertools.product(TWOS, patterns(width)):
                    told = table.make(word, table.number(one + span), table.number(other - span))
                    self.assertEqual(told, table.number(reckoned(width, word, one, other)))

    def test_the_mark_of_a_record_of_numbers(self):
        for width, kind, ask in itertools.product(WIDTHS, KINDS, range(8)):
            table = Terms(width)
            for numbers in itertools.product(edges(width)[::2], edges(width)[::2], (0, 1, 2)):
                parts = [table.number(number) for number in numbers]
                wanted = table.number(asked(marks_of(width, (kind, *numbers)), ask))
                self.assertEqual(table.mark(ask, (kind, *parts)), wanted)

    def test_the_mark_whose_used_terms_are_numbers(self):
        for width, kind, ask in itertools.product(WIDTHS, KINDS, range(8)):
            table = Terms(width)
            for x in list(things(table))[::3]:
                for numbers in ((0, 0, 0), (2 ** width - 1, 1, 1), (2 ** (width - 1), 3, 4)):
                    parts = [table.number(number) if place in used(kind) else x
                             for place, number in enumerate(numbers)]
                    wanted = table.number(asked(marks_of(width, (kind, *numbers)), ask))
                    self.assertEqual(table.mark(ask, (kind, *parts)), wanted)

    def test_marks_that_differ_in_what_the_kind_does_not_use(self):
        for width, kind, ask in itertools.product(WIDTHS, KINDS, range(8)):
            table = Terms(width)
            x, y = x_and_y(table)
            base = (x, table.make("not", y), table.make("left", x))
            term = table.mark(ask, (kind, *base))
            self.assertEqual(table.mark(ask, (kind, *base)), term)
            for place, other in itertools.product({0, 1, 2} - set(used(kind)), things(table)):
                parts = [other if at == place else part for at, part in enumerate(base)]
                self.assertEqual(table.mark(ask, (kind, *parts)), term)

    def test_in_either_order(self):
        for width in WIDTHS:
            table = Terms(width)
            terms = list(things(table))[::2] + [table.number(number) for number in (0, 1, 5, -1)]
            for word, (one, other) in itertools.product(EITHER_ORDER, itertools.product(terms, repeat=2)):
                self.assertEqual(table.make(word, one, other), table.make(word, other, one))

    def test_x_and_0(self):
        for width, table, x in self.each():
            for nought in (table.number(0), table.number(2 ** width), table.number(-2 ** width)):
                for word in ("add", "sub", "or", "xor"):
                    self.assertEqual(table.make(word, x, nought), x)
                for word in ("add", "or", "xor"):
                    self.assertEqual(table.make(word, nought, x), x)
                self.assertEqual(table.make("and", x, nought), nought)
                self.assertEqual(table.make("and", nought, x), nought)

    def test_x_and_x(self):
        for width, table, x in self.each():
            for word in ("and", "or"):
                self.assertEqual(table.make(word, x, x), x)
            for word in ("sub", "xor"):
                self.assertEqual(table.make(word, x, x), table.number(0))

    def test_not_of_not_x(self):
        for width, table, x in self.each():
            self.assertEqual(table.make("not", table.make("not", x)), x)
            self.assertNotEqual(table.make("not", x), x)

    def test_x_sub_a_number(self):
        for width, table, x in self.each():
            for number in edges(width) + [-1, -2, -3 * 2 ** width - 4, 2 ** width + 9]:
                told = table.make("sub", x, table.number(number))
                self.assertEqual(told, table.make("add", x, table.number(-number)))
                self.assertEqual(told, table.make("add", table.number(-number), x))

    def test_x_add_a_number_add_another_one(self):
        for width, table, x in self.each():
            numbers = (0, 1, 2, -1, -2, 2 ** (width - 1), 2 ** width - 1, 2 ** width + 6)
            for one, other in itertools.product(numbers, repeat=2):
                both = table.make("add", x, table.number(one + other))
                first, second = table.number(one), table.number(other)
                self.assertEqual(table.make("add", table.make("add", x, first), second), both)
                self.assertEqual(table.make("add", second, table.make("add", first, x)), both)
                self.assertEqual(table.make("sub", table.make("sub", x, first), second),
                                 table.make("add", x, table.number(-one - other)))
            self.assertEqual(table.make("sub", table.make("add", x, table.number(9)), table.number(9)), x)

    def test_numbers_in_the_place_of_x(self):
        for width in WIDTHS:
            table = Terms(width)
            nought = table.number(0)
            for number in patterns(width):
                x = table.number(number)
                for word in ("add", "sub", "or", "xor"):
                    self.assertEqual(table.make(word, x, nought), x)
                self.assertEqual(table.make("and", x, nought), nought)
                self.assertEqual(table.make("sub", x, x), nought)
                self.assertEqual(table.make("not", table.make("not", x)), x)

    def test_the_other_term_of_a_word_of_one_is_not_looked_at(self):
        for width, table, x in self.each():
            for word in ONES:
                self.assertEqual(table.make(word, x, table.number(1)), table.make(word, x))


class Unlike(TermsTest):
    """Terms that come to other numbers are never one, and each comes to what it is made of."""

    def drawn(self, draw, table, width, held):
        """A term made of two that are held, by a drawn word, with what it comes to for each of the given."""
        sort = draw.randrange(10)
        one, other, third = (draw.choice(held) for turn in range(3))
        if sort < 2:
            number = draw.choice(edges(width))
            return table.number(number - draw.randrange(2) * 2 ** width), [number] * len(one[1])
        if sort < 4:
            word = draw.choice(ONES)
            return table.make(word, one[0]), [reckoned(width, word, number, 0) for number in one[1]]
        if sort < 8:
            word = draw.choice(TWOS)
            numbers = [reckoned(width, word, *pair) for pair in zip(one[1], other[1])]
            return table.make(word, one[0], other[0]), numbers
        kind, ask = draw.choice(KINDS), draw.randrange(8)
        numbers = [asked(marks_of(width, (kind, *three)), ask) for three in zip(one[1], other[1], third[1])]
        return table.mark(ask, (kind, one[0], other[0], third[0])), numbers

    def test_drawn_terms(self):
        for width, seed in itertools.product(WIDTHS, range(25)):
            draw = random.Random(seed)
            table = Terms(width)
            choices = edges(width) + [draw.randrange(2 ** width) for turn in range(5)]
            givens = [given_of(draw.choice(choices), draw.choice(choices)) for turn in range(12)]
            held = [(term, [given[name] for given in givens])
                    for term, name in zip(x_and_y(table), (("x", 0), ("y", 0)))]
            numbers_of = dict(held)
            for turn in range(250):
                term, numbers = self.drawn(draw, table, width, held)
                self.assertEqual(numbers_of.setdefault(term, numbers), numbers, "two unlike terms are one")
                held.append((term, numbers))
                if turn % 10 == 0:
                    held = held[:2] + held[-20:]
            # Behind all that was made each still comes to the same.
            for term, numbers in numbers_of.items():
                self.assertEqual([table.value(term, given) for given in givens], numbers)

    def test_each_pair_of_small_terms(self):
        for width in (8, 32):
            table = Terms(width)
            x, y = x_and_y(table)
            span = 2 ** width
            small = [x, y] + [table.number(number) for number in (0, 1, 2, span // 2, span - 1)]
            small += [table.make(word, x) for word in ONES] + [table.make("add", x, table.number(1))]
            pairs = itertools.product((0, 1, 2, 3, span // 2, span // 2 - 1, span - 1, span - 2), repeat=2)
            givens = [given_of(*pair) for pair in pairs]
            values = {term: [table.value(term, given) for given in givens] for term in small}
            for word, one, other in itertools.product(TWOS, small, small):
                wanted = [reckoned(width, word, *pair) for pair in zip(values[one], values[other])]
                told = table.make(word, one, other)
                self.assertEqual([table.value(told, given) for given in givens], wanted, word)
            for kind, one, other in itertools.product(KINDS, small, small):
                for ask in (0, 3, 4, 7):
                    told = table.mark(ask, (kind, one, other, other))
                    wanted = [asked(marks_of(width, (kind, a, b, b)), ask)
                              for a, b in zip(values[one], values[other])]
                    self.assertEqual([table.value(told, given) for given in givens], wanted, kind)

    def test_the_order_counts_for_sub(self):
        for width in WIDTHS:
            table = Terms(width)
            x, y = x_and_y(table)
            self.assertNotEqual(table.make("sub", x, y), table.make("sub", y, x))
            self.assertNotEqual(table.make("sub", x, table.number(3)), table.make("sub", table.number(3), x))

    def test_unlike_marks(self):
        for width in WIDTHS:
            table = Terms(width)
            x, y = x_and_y(table)
            terms = [table.mark(ask, (kind, x, y, x)) for ask in range(8) for kind in ("sum", "less")]
            self.assertEqual(len(set(terms)), 16)
            for kind in KINDS:
                for place in used(kind):
                    parts = [y if at == place else x for at in range(3)]
                    other = table.mark(4, (kind, *parts))
                    if asked(marks_of(width, (kind, 0, 0, 0)), 4) != asked(
                            marks_of(width, (kind, *[int(part == y) * (2 ** width - 1) for part in parts])), 4):
                        self.assertNotEqual(other, table.mark(4, (kind, x, x, x)))

    def test_the_carry_of_more_and_fewer_is_that_of_c(self):
        for width, kind in itertools.product(WIDTHS, ("more", "fewer")):
            table = Terms(width)
            x, y = x_and_y(table)
            nought, one = table.number(0), table.number(1)
            for c, given, wanted in ((nought, {}, 0), (one, {}, 1), (y, given_of(0, 7), 1), (y, given_of(0, 8), 0)):
                term = table.mark(4, (kind, x, x, c))
                for number in edges(width):
                    self.comes_to(table, term, {**given, ("x", 0): number}, wanted)


class Full(TermsTest):
    def sorts(self):
        """New terms of each sort, each time one, as functions of a table and a number."""
        def chain(word):
            def made(table, number):
                x = table.unknown("x", 0 if number == 0 else (number - 1) // 2)
                if number < 2:
                    return x if number == 0 else table.unknown("y", 0)
                return x if number % 2 == 1 else table.make(word, x, table.unknown("y", 0))
            return made

        def deep(word):
            held = {}

            def made(table, number):
                held[number] = table.unknown("x", 0) if number == 0 else table.make(word, held[number - 1])
                return held[number]
            return made

        def mark(kind):
            def made(table, number):
                x = table.unknown("x", number // 2)
                return x if number % 2 == 0 else table.mark(number % 8, (kind, x, x, x))
            return made

        yield lambda table, number: table.number(number)
        yield lambda table, number: table.unknown("x", number)
        yield lambda table, number: table.unknown("x" * number, 0)
        for word in ("left", "right"):
            yield deep(word)
        for word in ONES + TWOS:
            yield chain(word)
        for kind in KINDS:
            yield mark(kind)

    def test_a_hundred_of_each_sort(self):
        for width in WIDTHS:
            for made in self.sorts():
                table = Terms(width)
                told = [made(table, number) for number in range(100)]
                self.assertEqual(len(set(told)), 100)

    def test_a_hundred_drawn_asks(self):
        for width, seed in itertools.product(WIDTHS, range(20)):
            draw = random.Random(seed)
            table = Terms(width)
            held = [table.unknown("x", 0)]
            for turn in range(99):
                word = draw.choice(TWOS)
                held.append(draw.choice((
                    lambda: table.number(draw.randrange(2 ** width)), lambda: table.unknown("x", turn),
                    lambda: table.make(word, draw.choice(held), draw.choice(held)),
                    lambda: table.make("not", draw.choice(held)),
                    lambda: table.mark(turn % 8, (draw.choice(KINDS), held[-1], held[0], draw.choice(held))),
                ))())

    def fill(self, table, made):
        """New terms are asked for till one is refused: those told, and how many the refusal bears."""
        told = []
        for number in range(100000):
            try:
                told.append(made(table, number))
            except HostError as error:
                self.assertIs(error.__class__, TooMany)
                self.assertTrue(is_whole(error.many))
                return told, error.many
        self.fail("a table took a hundred thousand terms")

    def test_a_full_table_tells_how_many_it_has(self):
        for width in (16, 32):
            for made in self.sorts():
                told, many = self.fill(Terms(width), made)
                self.assertGreaterEqual(len(told), 100)
                self.assertEqual(many, len(set(told)))

    def refused(self, made, many):
        with self.assertRaises(TooMany) as caught:
            made()
        self.assertIs(caught.exception.__class__, TooMany)
        self.assertWhole(caught.exception.many, many)

    def test_behind_a_refusal_it_takes_no_new_one(self):
        for width in WIDTHS:
            table = Terms(width)
            told, many = self.fill(table, lambda table, number: table.unknown("x", number))
            for turn in range(3):
                self.refused(lambda: table.number(0), many)
                self.refused(lambda: table.unknown("y", 0), many)
                for word in ONES:
                    self.refused(lambda: table.make(word, told[0]), many)
                for word in TWOS:
                    self.refused(lambda: table.make(word, told[0], told[1]), many)
                self.refused(lambda: table.make("sub", told[0], told[0]), many)
                for kind, ask in itertools.product(KINDS, range(8)):
                    self.refused(lambda: table.mark(ask, (kind, told[0], told[1], told[2])), many)

    def test_what_a_full_table_has_goes_on_being_told(self):
        for width in WIDTHS:
            table = Terms(width)
            ahead = list(things(table))
            numbers = [table.number(number) for number in (0, 1, 3, -1)]
            given = {**given_of(200, 100), ("x", 1): 9, ("x", -1): 8, ("", 0): 7}
            values = [table.value(term, given) for term in ahead]
            told, many = self.fill(table, lambda table, number: table.unknown("more", number))
            for turn in range(2):
                self.assertEqual([table.value(term, given) for term in ahead], values)
                self.assertEqual(list(things(table)), ahead)
                self.assertEqual([table.number(number) for number in (0, 1, 3, -1)], numbers)
                for number, term in enumerate(told):
                    self.assertEqual(table.unknown("more", number), term)
                    self.assertEqual(table.value(term, {("more", number): 5}), 5)
                for x in ahead:
                    self.assertEqual(table.make("add", x, numbers[0]), x)
                    self.assertEqual(table.make("and", x, x), x)
                    self.assertEqual(table.make("xor", x, x), numbers[0])
                    self.assertEqual(table.mark(0, ("logic", numbers[0], x, x)), numbers[1])
                self.refused(lambda: table.unknown("again", turn), many)

    def test_a_full_table_beside_a_fresh_one(self):
        table, other = Terms(8), Terms(8)
        self.fill(table, lambda table, number: table.unknown("x", number))
        self.assertEqual(other.value(other.make("add", other.number(200), other.number(100)), {}), 44)
        Terms(8).number(3)


if __name__ == "__main__":
    unittest.main()
