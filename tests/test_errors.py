"""[0.2] and the interface: the refusals, their one base and their fields."""

import unittest

from hostturn import errors
from hostturn.errors import (
    BadGuest, BadRows, BadShelf, HostError, NoCode, NoRow, NoStep, NotShown, TooMany,
)

REFUSALS = (NoStep, BadGuest, BadRows, NoCode, TooMany, NotShown, BadShelf, NoRow)
FIELDS = ((NoStep, "row"), (BadRows, "at"), (TooMany, "many"), (NoRow, "at"))
PLAIN = (BadGuest, NoCode, NotShown, BadShelf)


class Bases(unittest.TestCase):
    def test_host_error_stands_right_under_value_error(self):
        self.assertEqual(HostError.__bases__, (ValueError,))

    def test_each_refusal_stands_right_under_host_error_alone(self):
        for refusal in REFUSALS:
            with self.subTest(refusal.__name__):
                self.assertEqual(refusal.__bases__, (HostError,))

    def test_none_stands_under_another_one(self):
        for one in REFUSALS:
            for other in REFUSALS:
                with self.subTest(one=one.__name__, other=other.__name__):
                    self.assertEqual(issubclass(one, other), one is other)

    def test_the_module_holds_these_refusals_and_no_other(self):
        held = {
            thing for thing in vars(errors).values()
            if isinstance(thing, type) and issubclass(thing, Exception)
        }
        self.assertEqual(held, {HostError, *REFUSALS})


class Fields(unittest.TestCase):
    def test_each_bears_its_field_from_its_making(self):
        thing = object()
        for refusal, field in FIELDS:
            for value in ("put 3", "", 0, 1, 21, 1000, None, thing):
                with self.subTest(refusal=refusal.__name__, value=value):
                    self.assertIs(getattr(refusal(value), field), value)

    def test_two_refusals_keep_their_own_fields(self):
        for refusal, field in FIELDS:
            with self.subTest(refusal.__name__):
                first = refusal(1)
                second = refusal(2)
                self.assertEqual((getattr(first, field), getattr(second, field)), (1, 2))

    def test_a_list_borne_is_the_one_handed_in_unchanged(self):
        row = ["stop"]
        self.assertIs(NoStep(row).row, row)
        self.assertEqual(row, ["stop"])


class Raised(unittest.TestCase):
    def test_each_is_taken_as_itself_as_host_error_and_as_value_error(self):
        made = [refusal(5) for refusal, field in FIELDS] + [refusal() for refusal in PLAIN]
        for error in made:
            for taken in (error.__class__, HostError, ValueError):
                with self.subTest(error=error.__class__.__name__, taken=taken.__name__):
                    with self.assertRaises(taken) as caught:
                        raise error
                    self.assertIs(caught.exception, error)

    def test_each_has_words_that_can_be_shown(self):
        for refusal, field in FIELDS:
            with self.subTest(refusal.__name__):
                self.assertNotEqual(str(refusal(None)), "")


if __name__ == "__main__":
    unittest.main()
