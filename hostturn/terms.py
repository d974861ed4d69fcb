"""Terms: numbers, unknown ones, and what is made of them, those that are seen to be alike told as one."""

from hostturn.errors import TooMany
from hostturn.words import asked, fit, marks_of, reckoned, used

# How many terms a table takes.
MOST_TERMS = 4096

WORDS_OF_ONE = ("not", "left", "right")

# A term is kept as a tuple, its form, which is written in one way alone for all terms that are told as one:
# ("number", whole), ("unknown", name, which), (word, term), (word, term, term),
# ("plus", term, whole) for a term and a number put together,
# ("mark", ask, kind, term ..) with those terms alone that the kind uses.


def parts_of(form):
    """The terms of which a form is made."""
    word = form[0]
    if word == "number" or word == "unknown":
        return ()
    if word == "plus":
        return (form[1],)
    if word == "mark":
        return form[3:]
    return form[1:]


def mark_value(width, ask, kind, numbers):
    """The ask of a record, of whose numbers those are told that its kind uses."""
    whole = [0, 0, 0]
    for place, number in zip(used(kind), numbers):
        whole[place] = number
    return asked(marks_of(width, (kind, whole[0], whole[1], whole[2])), ask)


def form_value(width, form, numbers, given):
    """What a form comes to where its parts come to these numbers."""
    word = form[0]
    if word == "number":
        return form[1]
    if word == "unknown":
        return fit(width, given[(form[1], form[2])])
    if word == "plus":
        return fit(width, numbers[0] + form[2])
    if word == "mark":
        return mark_value(width, form[1], form[2], numbers)
    # Of a word of one the last number is the same again; it isn't looked at there.
    return reckoned(width, word, numbers[0], numbers[-1])


class Terms:
    """A table of terms of a width; each term is told by its place in the table."""

    def __init__(self, width):
        self.width = width
        self.forms = []
        self.places = {}

    def number(self, whole):
        """The term that is a number."""
        return self.term_of(("number", fit(self.width, whole)))

    def unknown(self, name, which):
        """The unknown term of a name and a whole number."""
        return self.term_of(("unknown", name, which))

    def make(self, word, one, other=None):
        """The term made of one term or of two by a word."""
        if word in WORDS_OF_ONE:
            return self.term_of(self.form_of_one(word, one))
        return self.term_of(self.form_of_two(word, one, other))

    def mark(self, ask, record):
        """The term that is the ask of a record (kind, a, b, c) of three terms."""
        kind = record[0]
        parts = [record[1 + place] for place in used(kind)]
        if all([self.is_known(part) for part in parts]):
            numbers = [self.known(part) for part in parts]
            return self.number(mark_value(self.width, ask, kind, numbers))
        return self.term_of(("mark", ask, kind) + tuple(parts))

    def value(self, one, given):
        """What a term comes to where its unknown ones are given."""
        numbers = {}
        # A term stands behind those of which it is made, so rising each is there when it is asked for.
        for term in self.needed(one):
            form = self.forms[term]
            parts = [numbers[part] for part in parts_of(form)]
            numbers[term] = form_value(self.width, form, parts, given)
        return numbers[one]

    def needed(self, one):
        """The term and all of which it is made, each once, rising."""
        found = {}
        pending = [one]
        while len(pending) > 0:
            term = pending.pop()
            if term not in found:
                found[term] = True
                pending.extend(parts_of(self.forms[term]))
        return sorted(found)

    def term_of(self, form):
        """The term of a form, a new one where the table has none yet."""
        if form in self.places:
            return self.places[form]
        many = len(self.forms)
        if many >= MOST_TERMS:
            raise TooMany(many)
        self.forms.append(form)
        self.places[form] = many
        return many

    def is_known(self, term):
        """True just where the term is a number."""
        return self.forms[term][0] == "number"

    def known(self, term):
        """The number that a term is."""
        return self.forms[term][1]

    def form_of_one(self, word, one):
        """The form of a word of one term."""
        form = self.forms[one]
        if self.is_known(one):
            return ("number", reckoned(self.width, word, form[1], 0))
        if word == "not" and form[0] == "not":
            return self.forms[form[1]]
        return (word, one)

    def form_of_two(self, word, one, other):
        """The form of a word of two terms."""
        if self.is_known(one) and self.is_known(other):
            return ("number", reckoned(self.width, word, self.known(one), self.known(other)))
        if self.is_known(other):
            return self.form_with_number(word, one, other)
        if word == "sub":
            return ("number", 0) if one == other else (word, one, other)
        if self.is_known(one):
            return self.form_with_number(word, other, one)
        if one == other and word != "add":
            return ("number", 0) if word == "xor" else self.forms[one]
        # In either order the two are one term.
        return (word, min(one, other), max(one, other))

    def form_with_number(self, word, one, other):
        """The form of a word of a term that is no number, and one that is."""
        number = self.known(other)
        if word == "add":
            return self.form_of_plus(one, number)
        if word == "sub":
            return self.form_of_plus(one, -number)
        if number == 0:
            return ("number", 0) if word == "and" else self.forms[one]
        return (word, one, other)

    def form_of_plus(self, one, number):
        """The form of a term that is no number, and a number put to it."""
        form = self.forms[one]
        if form[0] == "plus":
            return self.form_of_plus(form[1], form[2] + number)
        whole = fit(self.width, number)
        return form if whole == 0 else ("plus", one, whole)
