"""Points 2 and 25: kinddeeds.reader, and the writing of kinds, expressions and values in kinddeeds.notes."""

import unittest

from chances import all_nodes, some_program
from kinddeeds.errors import NoWords
from kinddeeds.notes import show_expression, show_kind, show_value
from kinddeeds.reader import read_expression, read_kind
from programs import NO, ONE, WHOLE, X, Y, call, case, form, nested, wide
from samples import Odd, TextOfItsOwn, bushy, chain, chance, neither_name_nor_kind, some_kind

NINES = 10 ** 60 - 1
KINDS = [
    (0, "0"), (1, "1"), (7, "7"), (10, "10"), (100, "100"), (305, "305"), (NINES, "9" * 60), (10 ** 59, "1" + "0" * 59),
    (WHOLE, "whole"), (("a",), "a"), (("abcdefgh",), "abcdefgh"), (("z", 0), "z(0)"), (("list", WHOLE), "list(whole)"),
    (("pair", 0, ("list", WHOLE)), "pair(0, list(whole))"), (("trio", 12, 0, 345), "trio(12, 0, 345)"),
    (("a", ("b", ("c", ("d",), 1), 2), 3), "a(b(c(d, 1), 2), 3)"), (("kind", ("ask",), ("def",)), "kind(ask, def)"),
    (("a", ("a", ("a",)), ("a",), ("a", 0)), "a(a(a), a, a(0))"),
]
EXPRESSIONS = [
    (("number", 0), "0"), (("number", 7), "7"), (("number", -7), "-7"), (("number", 10), "10"),
    (("number", -10), "-10"),
    (("number", NINES), "9" * 60), (("number", -NINES), "-" + "9" * 60), (("number", 10 ** 59), "1" + "0" * 59),
    (X, "x"), (("name", "abcdefgh"), "abcdefgh"), (("name", "whole"), "whole"), (("name", "plus"), "plus"),
    (NO, "No()"), (("form", "Abcdefgh", ()), "Abcdefgh()"), (("form", "A", ()), "A()"), (call("f"), "f()"),
    (call("abcdefgh"), "abcdefgh()"), (form("Link", X, form("End")), "Link(x, End())"), (call("f", X), "f(x)"),
    (call("f", ONE, ("number", -2), X), "f(1, -2, x)"), (form("Trio", ONE, call("g"), form("B")), "Trio(1, g(), B())"),
    (case(X, ("A", (), ONE)), "[x: A() 1]"), (case(X, ("A", ("x",), X)), "[x: A(x) x]"),
    (case(NO, ("No", (), ONE), ("Yes", (), X)), "[No(): No() 1; Yes() x]"),
    (case(X, ("A", ("x", "y"), X), ("B", ("z", "u", "v"), Y), ("C", (), ONE), ("D", ("x",), X)),
     "[x: A(x, y) x; B(z, u, v) y; C() 1; D(x) x]"),
    (case(case(X, ("A", (), X)), ("A", (), case(X, ("B", (), Y)))), "[[x: A() x]: A() [x: B() y]]"),
    (call("f", case(X, ("A", (), X)), form("A", case(X, ("A", (), X)))), "f([x: A() x], A([x: A() x]))"),
    (case(call("f", X), ("A", ("x",), call("f", X, form("A")))), "[f(x): A(x) f(x, A())]"),
    (case(ONE, ("A", (), ("number", -1))), "[1: A() -1]"),
]
VALUES = [
    (0, "0"), (-5, "-5"), (NINES, "9" * 60), (("No",), "No()"), (("Link", 1, ("End",)), "Link(1, End())"),
    (("Trio", -1, ("Some", ("Yes",)), 20), "Trio(-1, Some(Yes()), 20)"),
]

NO_KINDS = """
|-0|-1|00|01|007|+1|1.0|1_0|0x1|1e3|A|List|lisT|list()|list( )|list(|list)|list(0|list(0))|(0)|()|0()|0(0)|list 0
list(0,0)|list(0,  0)|list(0 ,0)|list(0, )|list(, 0)|list(0,)|list(,)|list(0;0)|list(0 0)| 0|0 | whole|whole |list (0)
list( 0)|list(0 )|list(0) |list(0)0|list(0)x|list(0)(0)|abcdefghi|abcdefghi(0)|list(abcdefghi)|a(0, 1, 2, 3)
a(b(0, 1, 2, 3))|a(01)|a(-1)|a(-)|a(A)|a(b()|a(b))|a(b()|a(b(0)|a[0]|[0]|a{0}|a-b|a_b|a1|1a|'0|("a",)|a(b)c|a,b|a, b|,
a(0, 1(2))|a(b, (c))|a((b))|a(b;c)|a(b: c)|x y|-|=|list(0) list(0)
""".strip().split("\n")
NO_EXPRESSIONS = """
|-0|00|01|-00|-01|-|--1|- 1|+1|1.0|1 |  1| 1|x | x|x y|x1|1x|X|Xy|aB|AB|ABc|aBc|abcdefghi|Abcdefghi()|abcdefghi()|f(
f)|f(x|f(x))|f(()|f())|f(x) |f (x)|f( x)|f(x )|f(x,y)|f(x,  y)|f(x , y)|f(x, )|f(, x)|f(,)|f(x,)|f(x;y)|f(x y)|f(x)(y)
f(x)y|f(x, y, z, u)|F(1, 2, 3, 4)|f()()|()|(x)|F|f(F)|F(G)|F(x|F(x))|F (x)|Ff()x|f[x]|f(-)|f(-0)|f(01)|f(1, 02)|f(--1)
[|]|[]|[x]|[x:]|[x: ]|[x: A]|[x: A()]|[x: A() ]|[x: A()1]|[x: A()  1]|[x:A() 1]|[x : A() 1]|[ x: A() 1]|[x: A() 1 ]
[x:  A() 1]|[x; A() 1]|[x: A() 1|x: A() 1]|[x: A() 1]]|[[x: A() 1]|[x: A() 1;]|[x: A() 1; ]|[x: A() 1;B() 2]
[x: A() 1;  B() 2]|[x: A() 1 ; B() 2]|[x: A() 1, B() 2]|[x: A() 1: B() 2]|[x: a() 1]|[x: A(1) 1]|[x: A(X) 1]
[x: A(f()) 1]|[x: A(x, x) 1]|[x: A(x, y, x) 1]|[x: A(x, y, y) 1]|[x: A(x,y) 1]|[x: A(x, y, z, u) 1]|[x: A( x) 1]
[x: A x 1]|[x: A(x 1]|[x: A x) 1]|[x: (x) 1]|[x: A(abcdefghi) 1]|[x: Abcdefghi() 1]
[x: A() 1; B() 2; C() 3; D() 4; E() 5]
[x: A() 1; ; B() 2]|[: A() 1]|[x A() 1]|[x: A() 1] |[x: A() 1]x|[x: A() 1](x)|[x: A() 1, 2]|[x, y: A() 1]|[x: A() x y]
[x: A() 01]|[x: A() -0]|[x: A() X]|[x: A() [y: B() 1]|x = 1|x=|'x'|"x"|x,y|x;y|x: y|ask 1|f(x).|{x}|f(x)[y]|x(y)(z)|1(x)
-x|-f(x)|-(1)|-F()|1 2|1, 2|f(1 2)|f(x,\ty)|f\t(x)|\t1|1\t|[x:\tA() 1]|[x: A()\t1]
""".strip().replace("\\t", "\t").split("\n")


def split_up(lines):
    """The texts of the lines, parted by strokes, and the text without signs."""
    return [""] + [text for line in lines for text in line.split("|") if text]


class Words(unittest.TestCase):
    def refused(self, read, thing):
        with self.assertRaises(NoWords) as taken:
            read(thing)
        self.assertIs(type(taken.exception), NoWords)
        self.assertIsNone(taken.exception.place)


class Kinds(Words):
    def test_written_and_read(self):
        for kind, text in KINDS:
            self.assertEqual(show_kind(kind), text)
            self.assertEqual(read_kind(text), kind)

    def test_what_writes_none(self):
        for text in split_up(NO_KINDS):
            self.refused(read_kind, text)

    def test_figures(self):
        self.refused(read_kind, "1" * 61)
        self.refused(read_kind, "a(" + "1" * 61 + ")")
        self.refused(read_kind, "9" * 20000)
        self.assertEqual(read_kind("a(" + "1" * 60 + ")"), ("a", int("1" * 60)))

    def test_sizes_of_24(self):
        for kind in [chain(24), bushy(24), chain(24, 0), chain(23, ("b", 0))]:
            self.assertEqual(read_kind(show_kind(kind)), kind)

    def test_greater_kinds_are_written(self):
        text = show_kind(chain(60))
        self.assertEqual(text, "a(" * 59 + "z" + ")" * 59)

    def test_kinds_by_chance(self):
        random = chance(251)
        for step in range(1000):
            kind = some_kind(random, 3, 300)
            if len(repr(kind)) < 100:
                self.assertEqual(read_kind(show_kind(kind)), kind)

    def test_brackets_left_open_or_closed_without_end(self):
        for text in ["a(" * 10000, "(" * 20000, ")" * 20000, "a(" * 6000 + "a" + ")" * 6000, "a(0, " * 4000,
                     "a, " * 6000]:
            self.refused(read_kind, text)


class Expressions(Words):
    def test_written_and_read(self):
        for expression, text in EXPRESSIONS:
            self.assertEqual(show_expression(expression), text)
            self.assertEqual(read_expression(text), expression)

    def test_what_writes_none(self):
        for text in split_up(NO_EXPRESSIONS):
            self.refused(read_expression, text)

    def test_figures(self):
        for sign in ["", "-"]:
            self.refused(read_expression, sign + "1" * 61)
            self.refused(read_expression, sign + "0" + "1" * 59)
            self.refused(read_expression, sign + "0" * 60)
            self.refused(read_expression, "f(" + sign + "1" * 61 + ")")
            self.refused(read_expression, sign + "9" * 19999)

    def test_all_names_of_one_to_eight_letters(self):
        for many in range(1, 9):
            for letter in "az":
                self.assertEqual(read_expression(letter * many), ("name", letter * many))
                self.assertEqual(read_expression(letter * many + "()"), call(letter * many))
                name = letter.upper() + letter * (many - 1)
                self.assertEqual(read_expression(name + "()"), form(name))
                self.refused(read_expression, letter.upper() * 2 + letter * (many - 1) + "()")
                self.refused(read_expression, letter * many + "A" + "()")

    def test_the_bounds_of_expressions(self):
        for expression in [nested(11), wide(40), nested(11, NO), nested(10, case(X, ("A", (), X)))]:
            self.assertEqual(read_expression(show_expression(expression)), expression)

    def test_brackets_left_open_or_closed_without_end(self):
        for text in ["f(" * 10000, "[" * 20000, "]" * 20000, "F(" * 6000 + ")" * 6000 + ")", "[x: A() " * 2000,
                     "-" * 20000, "f(x, " * 4000, "[f(" * 6000, ")" * 20000, "x" * 20000, "F" * 20000, " " * 20000,
                     "f()" * 6000]:
            self.refused(read_expression, text)


class Values(unittest.TestCase):
    def test_written(self):
        for value, text in VALUES:
            self.assertEqual(show_value(value), text)

    def test_a_value_is_written_as_an_expression(self):
        def as_expression(value):
            if isinstance(value, int):
                return ("number", value)
            return ("form", value[0], tuple(as_expression(part) for part in value[1:]))

        for value, text in VALUES:
            self.assertEqual(show_expression(as_expression(value)), text)
            self.assertEqual(read_expression(text), as_expression(value))

    def test_values_of_size_100(self):
        value = ("End",)
        text = "End()"
        for step in range(99):
            value = ("Some", value)
            text = "Some(" + text + ")"
        self.assertEqual(show_value(value), text)

    def test_numbers_of_any_length(self):
        for many in [1, 59, 60, 61, 119, 120, 121, 600, 5000, 20000]:
            figures = ("1234567890" * 2000)[:many]
            number = 0
            for figure in figures:
                number = 10 * number + int(figure)
            self.assertEqual(show_value(number), figures)
            self.assertEqual(show_value(-number), "-" + figures)
            self.assertEqual(show_value(("Some", -number)), "Some(-" + figures + ")")
            self.assertEqual(show_value(10 ** (many - 1)), "1" + "0" * (many - 1))
            self.assertEqual(show_value(-10 ** (many - 1)), "-1" + "0" * (many - 1))


class OfAnything(Words):
    def test_other_things_than_texts(self):
        for thing in neither_name_nor_kind() + [0, 5, X, NO, ("number", 1), ("x",), ["x"], b"x", Odd(), {"x": 1}]:
            for read in [read_kind, read_expression]:
                if not isinstance(thing, str):
                    self.refused(read, thing)

    def test_texts_of_a_class_of_their_own(self):
        self.assertEqual(read_kind(TextOfItsOwn("list(0)")), ("list", 0))
        self.assertEqual(read_expression(TextOfItsOwn("f(x)")), call("f", X))

    def test_texts_by_chance(self):
        """Each thing is written in one way alone: what is read, written again, must be the text it was read from."""
        random = chance(252)
        good = [0, 0]
        for step in range(20000):
            signs = random.choice(["ab01-(), ", "xA(),;: []1-", "fx(,) F", "[x: A() ;]"])
            text = "".join(random.choice(signs) for sign in range(random.randrange(1, 12)))
            good[0] += self.reads_as_written(read_kind, show_kind, text)
            good[1] += self.reads_as_written(read_expression, show_expression, text)
        self.assertGreater(min(good), 50, good)

    def test_texts_with_one_sign_changed(self):
        good = 0
        signs = ["", " ", "(", ")", ",", "[", "]", ";", ":", "-", "0", "1", "x", "A", ", ", "()", "\t", "\n"]
        texts = [text for thing, text in KINDS + EXPRESSIONS if len(text) < 55]
        for text in texts:
            for place in range(len(text) + 1):
                for sign in signs:
                    for end in [place, place + 1]:
                        changed = text[:place] + sign + text[end:]
                        good += self.reads_as_written(read_kind, show_kind, changed)
                        good += self.reads_as_written(read_expression, show_expression, changed)
        self.assertGreater(good, 500)

    def reads_as_written(self, read, show, text):
        try:
            thing = read(text)
        except NoWords as error:
            self.assertIsNone(error.place)
            return 0
        self.assertEqual(show(thing), text)
        return 1

    def test_all_expressions_of_programs_by_chance(self):
        random = chance(254)
        for step in range(100):
            for row in some_program(random, 1):
                if row[0] in ("once", "does", "def", "ask"):
                    for node in all_nodes(row[-1]):
                        self.assertEqual(read_expression(show_expression(node)), node)


if __name__ == "__main__":
    unittest.main()
