"""Numbers written in figures."""

from hostturn.words import is_between

FIGURES = "0123456789"

# No number that is read has more figures than a kept count of steps may have.
MOST_FIGURES = 15


def figured(text):
    """The number that is written so, in figures; None where none is."""
    bare = text[1:] if text.startswith("-") else text
    # Long rows are turned away unread: Python's own int refuses very long ones.
    if bare == "" or len(bare) > MOST_FIGURES:
        return None
    for sign in bare:
        if sign not in FIGURES:
            return None
    number = int(text)
    # A nought ahead, and a - ahead of 0, would not be written so again.
    return number if str(number) == text else None


def bounded(words, bounds):
    """The numbers that the words are, one for each pair (least, greatest) and within it; None where they aren't."""
    if len(words) != len(bounds):
        return None
    numbers = [figured(word) for word in words]
    fits = [is_between(number, pair[0], pair[1]) for number, pair in zip(numbers, bounds)]
    return numbers if all(fits) else None


def spaced(numbers):
    """The numbers in figures with one blank between, or none where there is none."""
    return " ".join([str(number) for number in numbers]) if len(numbers) > 0 else "none"
