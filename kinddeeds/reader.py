"""Reader: kinds and expressions read from texts."""

from kinddeeds.errors import NoWords
from kinddeeds.kinds import MOST_PARTS, MOST_SIZE, is_kind, is_name
from kinddeeds.rows import MOST_ABOVE, MOST_FORMS, is_expression, is_form_name, is_unlike_names

MOST_FIGURES = 60


def is_letter(sign):
    return "a" <= sign <= "z" or "A" <= sign <= "Z"


def is_figure(sign):
    return "0" <= sign <= "9"


# A text and how far it is read. Each method reads what its name says from
# there on, and refuses with NoWords where this does not stand there.
class Reader:
    def __init__(self, text):
        self.text = text
        self.at = 0

    def is_before(self, is_one):
        return self.at < len(self.text) and is_one(self.text[self.at])

    def takes(self, signs):
        if not self.text.startswith(signs, self.at):
            return False
        self.at = self.at + len(signs)
        return True

    def must_take(self, signs):
        if not self.takes(signs):
            raise NoWords(None)

    def must_end(self):
        if self.at != len(self.text):
            raise NoWords(None)

    def take_all(self, is_one):
        start = self.at
        while self.is_before(is_one):
            self.at = self.at + 1
        return self.text[start:self.at]

    def name(self):
        word = self.take_all(is_letter)
        if not is_name(word):
            raise NoWords(None)
        return word

    def form_name(self):
        word = self.take_all(is_letter)
        if not is_form_name(word):
            raise NoWords(None)
        return word

    def number(self):
        figures = self.take_all(is_figure)
        if len(figures) < 1 or len(figures) > MOST_FIGURES:
            raise NoWords(None)
        if figures[0] == "0" and len(figures) > 1:
            raise NoWords(None)
        return int(figures)

    # What stands in brackets, parted by commas; the first bracket is read already.
    def few(self, read_one):
        parts = []
        while not self.takes(")"):
            if len(parts) == MOST_PARTS:
                raise NoWords(None)
            if parts:
                self.must_take(", ")
            parts.append(read_one())
        return tuple(parts)

    # The bounds on what stands above keep the recursion short, whatever the text.
    def kind(self, above):
        if above == MOST_SIZE:
            raise NoWords(None)
        if self.is_before(is_figure):
            return self.number()
        name = self.name()
        if not self.takes("("):
            return (name,)
        parts = self.few(lambda: self.kind(above + 1))
        if not parts:
            raise NoWords(None)
        return (name,) + parts

    def kinds(self):
        self.must_take("(")
        return self.few(lambda: self.kind(0))

    def expression(self, above):
        if above > MOST_ABOVE:
            raise NoWords(None)
        if self.takes("["):
            return self.case(above)
        if self.takes("-"):
            return ("number", self.number_below())
        if self.is_before(is_figure):
            return ("number", self.number())
        word = self.take_all(is_letter)
        if is_form_name(word):
            self.must_take("(")
            return ("form", word, self.args_here(above))
        if not is_name(word):
            raise NoWords(None)
        if self.takes("("):
            return ("call", word, self.args_here(above))
        return ("name", word)

    def number_below(self):
        number = self.number()
        if number == 0:
            raise NoWords(None)
        return -number

    def args_here(self, above):
        return self.few(lambda: self.expression(above + 1))

    # The first bracket is read already.
    def case(self, above):
        looked_at = self.expression(above + 1)
        self.must_take(": ")
        arms = [self.arm(above)]
        while not self.takes("]"):
            if len(arms) == MOST_FORMS:
                raise NoWords(None)
            self.must_take("; ")
            arms.append(self.arm(above))
        return ("case", looked_at, tuple(arms))

    def arm(self, above):
        form = self.form_name()
        self.must_take("(")
        names = self.few(lambda: self.name())
        if not is_unlike_names(names):
            raise NoWords(None)
        self.must_take(" ")
        return (form, names, self.expression(above + 1))


def reader_of(thing):
    if not isinstance(thing, str):
        raise NoWords(None)
    return Reader(thing)


def read_kind(text):
    reader = reader_of(text)
    kind = reader.kind(0)
    reader.must_end()
    if not is_kind(kind):
        raise NoWords(None)
    return kind


def read_expression(text):
    reader = reader_of(text)
    expression = reader.expression(0)
    reader.must_end()
    if not is_expression(expression):
        raise NoWords(None)
    return expression
