"""Points 2 and 26: kinddeeds.notes."""

import unittest

from chances import some_program
from kinddeeds import errors
from kinddeeds.errors import NoWords
from kinddeeds.found import Found
from kinddeeds.making import made
from kinddeeds.notes import answers, read, show, show_kind
from kinddeeds.runs import ByTables
from programs import NO, ONE, TRUTH, WHOLE, X, Y, call, case, form, full, nested, wide
from samples import Odd, TextOfItsOwn, bushy, chain, chance, neither_name_nor_kind

FULL = """\
kind list 1 = End() Link(0, list(0))
kind pair 2 = Pair(0, 1)
class like
class order like
deed same like (0, 0) truth
deed below order (0, 0) truth
deed most order (0, 0) 0
once most x y = [below(x, y): Yes() y; No() x]
house like whole
does like whole same x y = [under(x, y): Yes() No(); No() Yes()]
house order whole
does order whole below x y = under(x, y)
does order whole most x y = y
house like list like
does like list same x y = Yes()
house order list order
does order list below x y = No()
house like pair like -
does like pair same x y = No()
def biggest x y = most(x, y)
ask biggest(1, -2)
ask same(Pair(1, End()), Pair(1, End()))"""

ROWS = [
    (("kind", "k", 0, (("A", ()),)), "kind k 0 = A()"),
    (("kind", "list", 1, (("End", ()), ("Link", (0, ("list", 0))))), "kind list 1 = End() Link(0, list(0))"),
    (("kind", "k", 3, (("A", (0, 1, 2)), ("B", (("p", 2, WHOLE),)), ("C", ()), ("D", (1, 1)))),
     "kind k 3 = A(0, 1, 2) B(p(2, whole)) C() D(1, 1)"),
    (("kind", "kind", 2, (("Kind", (("kind", 1, 0),)),)), "kind kind 2 = Kind(kind(1, 0))"),
    (("class", "c", ()), "class c"), (("class", "c", ("a",)), "class c a"), (("class", "c", ("b", "a")), "class c b a"),
    (("class", "abcdefgh", ("a", "b", "abcdefgh")), "class abcdefgh a b abcdefgh"),
    (("class", "c", ("a", "a")), "class c a a"),
    (("deed", "d", "c", (), 0), "deed d c () 0"), (("deed", "d", "c", (0,), WHOLE), "deed d c (0) whole"),
    (("deed", "d", "c", (0, ("list", 0), TRUTH), ("pair", 0, WHOLE)), "deed d c (0, list(0), truth) pair(0, whole)"),
    (("deed", "d", "c", (), WHOLE), "deed d c () whole"),
    (("once", "d", (), ONE), "once d = 1"), (("once", "d", ("x",), X), "once d x = x"),
    (("once", "once", ("x", "y", "z"), call("f", X)), "once once x y z = f(x)"),
    (("house", "c", "k", ()), "house c k"), (("house", "c", "k", ("a",)), "house c k a"),
    (("house", "c", "k", (None,)), "house c k -"), (("house", "c", "k", (None, "a", None)), "house c k - a -"),
    (("house", "c", "k", ("a", "b", "a")), "house c k a b a"),
    (("house", "c", "k", (None, None, None)), "house c k - - -"),
    (("does", "c", "k", "d", (), NO), "does c k d = No()"),
    (("does", "c", "k", "d", ("x", "y"), Y), "does c k d x y = y"),
    (("does", "does", "c", "k", ("d", "x", "y"), ("number", -5)), "does does c k d x y = -5"),
    (("def", "f", (), ("number", 0)), "def f = 0"), (("def", "f", ("x", "y", "z"), X), "def f x y z = x"),
    (("def", "f", ("x",), case(X, ("A", ("x", "y"), form("B")), ("C", (), ONE))), "def f x = [x: A(x, y) B(); C() 1]"),
    (("ask", ("number", 10 ** 60 - 1)), "ask " + "9" * 60), (("ask", ("number", 1 - 10 ** 60)), "ask -" + "9" * 60),
    (("ask", X), "ask x"), (("ask", call("ask")), "ask ask()"),
]

# Each of these lines writes no row.
NO_ROWS = """
kind
kind k
kind k 0
kind k 0 =
kind k 0 = 
kind k 0 A()
kind k 0 = A
kind k 0 = a()
kind k 0 = A()B()
kind k 0 = A()  B()
kind k 0 = A(), B()
kind k 0 = A() 
kind k 0 = A() b
kind k 0  = A()
kind k 0 =A()
kind k 0 =  A()
kind k  0 = A()
kind  k 0 = A()
kind k 00 = A()
kind k 01 = A()
kind k -1 = A()
kind k -0 = A()
kind k 4 = A()
kind k 10 = A()
kind k x = A()
kind k = A()
kind K 0 = A()
kind abcdefghi 0 = A()
kind k 0 = Abcdefghi()
kind k 0 = AB()
kind k 0 = A(0)
kind k 1 = A(1)
kind k 2 = A(0, 2)
kind k 3 = A(p(q(3)))
kind k 3 = A(0, 1, 2, 0)
kind k 1 = A(0,0)
kind k 1 = A(0 0)
kind k 1 = A( 0)
kind k 1 = A(0
kind k 1 = A 0)
kind k 1 = A(01)
kind k 1 = A(-1)
kind k 1 = A(x()
kind k 1 = A(x())
kind k 0 = A() B() C() D() E()
class
class 
class C
class c 
class c  a
class c a 
class c a b d e
class c A
class c -
class c, a
class c a, b
class abcdefghi
class c abcdefghi
class c = a
classc
class c()
deed
deed d
deed d c
deed d c ()
deed d c () 
deed d c 0
deed d c 0 0
deed d c ()0
deed d c() 0
deed d c (0 0
deed d c 0) 0
deed d c (0) 0 0
deed d c (0) (0)
deed d c (0) 0 
deed d c (0)  0
deed d c  (0) 0
deed d c (1) 0
deed d c (0) 1
deed d c (0, 0, 0, 0) 0
deed d c (0,0) 0
deed d c (0, ) 0
deed d c (list()) 0
deed D c (0) 0
deed d C (0) 0
deed d (0) 0
deed d c (0) = 0
once
once d
once d =
once d = 
once d 1
once d x
once d x = 
once d x =x
once d x= x
once d x  = x
once d x =  x
once d  = x
once d  x = x
once d= x
once = x
once d x x = x
once d x y z u = x
once d X = x
once d x = x y
once d x, y = x
once d - = x
once d x = x = x
once d abcdefghi = x
once d x = X
once d x = [x: A() 1
house
house c
house c 
house c k 
house c k  a
house c k a 
house c k a b d e
house c k - - - -
house c k --
house c k -a
house c k a-
house c k A
house C k
house c K
house c k -1
house c k 0
house c k None
house c k, a
house c k(a)
house c - a
house - k
does
does c
does c k
does c k d
does c k d =
does c k = 1
does c = 1
does c k d 1
does c k d  = 1
does c k d =1
does c k d x x = 1
does c k d x y z u = 1
does c k D = 1
does c K d = 1
does C k d = 1
does c - d = 1
does c k d x = 
def
def f
def f =
def f = 
def f 1
def F = 1
def = 1
def f() = 1
def f(x) = x
def f x x = x
def f x y z u = x
def f x = x 
def f x =x
def f  x = x
def f x : x
def f X = 1
def abcdefghi = 1
def f x = f(x
def f x = f x
ask
ask 
ask  1
ask 1 
ask = 1
ask 01
ask -0
ask X
ask x y
ask f(x))
ask [x]
ask f(1, 2, 3, 4)
ask 1; 2
ask(1)
Ask 1
ASK 1
asks 1
as 1
 ask 1
	ask 1
ask	1
ask 1	
x
1
f(x)
rule 1
# ask 1
=
-
kinds k 0 = A()
defs f = 1
""".strip("\n").split("\n")


class Notes(unittest.TestCase):
    def refused(self, thing, place):
        for done in [read, answers]:
            with self.assertRaises(NoWords) as taken:
                done(thing)
            self.assertIs(type(taken.exception), NoWords)
            self.assertEqual(taken.exception.place, place, thing[:200] if isinstance(thing, str) else None)


class Rows(Notes):
    def test_each_sort_of_row(self):
        for row, line in ROWS:
            self.assertEqual(show([row]), line)
            self.assertEqual(read(line), [row])

    def test_rows_together(self):
        rows = [row for row, line in ROWS]
        text = "\n".join(line for row, line in ROWS)
        self.assertEqual(show(rows), text)
        self.assertEqual(read(text), rows)
        self.assertIs(type(read(text)), list)

    def test_a_full_program(self):
        self.assertEqual(show(full()), FULL)
        self.assertEqual(read(FULL), full())

    def test_no_rows(self):
        self.assertEqual(show([]), "")
        self.assertEqual(read(""), [])

    def test_40_rows_and_41(self):
        for line in ["ask 1", "def f x = x", "class c"]:
            text = "\n".join([line] * 40)
            self.assertEqual(read(text), read(line) * 40)
            self.assertEqual(show(read(text)), text)
            with self.assertRaises(NoWords) as taken:
                read(text + "\n" + line)
            self.assertIsNone(taken.exception.place)
        self.refused("\n".join(["ask 1"] * 39 + ["ask"]), (39, 0))
        self.refused("\n".join(["ask 1"] * 39 + ["ask"] * 2), None)
        self.refused("\n".join(["ask 1"] * 40) + "\n", None)
        self.refused("\n" * 40, None)
        self.refused("\n" * 39, (0, 0))
        self.refused("\n" * 19999, None)

    def test_line_feeds_ahead_behind_and_doubled(self):
        self.refused("\n", (0, 0))
        self.refused("\n\n", (0, 0))
        self.refused("\nask 1", (0, 0))
        self.refused("ask 1\n", (1, 0))
        self.refused("ask 1\n\n", (1, 0))
        self.refused("ask 1\n\nask 1", (1, 0))
        self.refused("ask 1\nask 1\n", (2, 0))
        self.refused("ask 1\nask 1\n\nask 1\n", (2, 0))
        self.refused(" ", (0, 0))
        self.refused("ask 1\n ", (1, 0))
        self.refused("ask 1 \nask 1", (0, 0))
        self.refused("ask 1\n ask 1", (1, 0))

    def test_each_row_that_writes_none(self):
        for line in NO_ROWS:
            self.refused(line, (0, 0))
            self.refused("ask 1\nclass c\n" + line, (2, 0))
            self.refused(line + "\nask 1", (0, 0))

    def test_the_first_row_that_writes_none(self):
        random = chance(261)
        for step in range(300):
            lines = [random.choice(ROWS)[1] for row in range(10)]
            bad = sorted(random.sample(range(10), random.randrange(1, 4)))
            for place in bad:
                lines[place] = random.choice(NO_ROWS)
            self.refused("\n".join(lines), (bad[0], 0))

    def test_no_text(self):
        for thing in neither_name_nor_kind() + [0, 5, [], ["ask 1"], ("ask 1",), b"ask 1", full(), Odd(), {"ask": 1}]:
            self.refused(thing, None)

    def test_texts_of_a_class_of_their_own(self):
        self.assertEqual(read(TextOfItsOwn(FULL)), full())

    def test_long_texts(self):
        for text in ["f(" * 9000, "ask " + "f(" * 9000, "class " + "a " * 9000, "house c k" + " -" * 9000,
                     "def f" + " x" * 9000 + " = x", "kind k 0 =" + " A()" * 4000, "ask " + "1" * 19000,
                     "kind k " + "1" * 19000 + " = A()", "deed d c (" + "a(" * 9000, "ask " + "[" * 19000]:
            self.refused(text, (0, 0))
            self.refused("ask 1\n" + text, (1, 0))

    def test_rows_beyond_the_bounds(self):
        """Expressions of more than 40 nodes or too deep and kinds of a size above 24 stand in no row."""
        for good, bad in [(wide(40), wide(41)), (nested(11), nested(12))]:
            self.assertEqual(read(show([("ask", good)])), [("ask", good)])
            self.refused(show([("ask", bad)]), (0, 0))
            self.assertEqual(read(show([("def", "f", (), good)])), [("def", "f", (), good)])
            self.refused("ask 1\n" + show([("def", "f", (), bad)]), (1, 0))
        for make in [chain, bushy]:
            self.assertEqual(read("kind k 0 = A(" + show_kind(make(24)) + ")")[0][3], (("A", (make(24),)),))
            self.refused("kind k 0 = A(" + show_kind(make(25)) + ")", (0, 0))
            self.assertEqual(read("deed d c () " + show_kind(make(24)))[0][4], make(24))
            self.refused("deed d c () " + show_kind(make(25)), (0, 0))

    def test_programs_by_chance(self):
        random = chance(262)
        for step in range(300):
            rows = some_program(random, step % 3)
            kept = list(rows)
            text = show(rows)
            self.assertEqual(read(text), rows)
            self.assertEqual(show(read(text)), text)
            self.assertEqual(rows, kept)

    def test_lines_with_one_sign_changed(self):
        """A row is written in one way alone: what is read, written again, must be the text it was read from."""
        good = 0
        for row, line in ROWS:
            for place in range(len(line) + 1) if len(line) < 60 else ():
                for sign in ["", " ", "(", ")", ",", "=", "-", "0", "x", "A", ", ", "()", " x", "\t"]:
                    for end in [place, place + 1]:
                        text = line[:place] + sign + line[end:]
                        try:
                            rows = read(text)
                        except NoWords as error:
                            self.assertEqual(error.place, (0, 0))
                            continue
                        self.assertEqual(show(rows), text)
                        good += 1
        self.assertGreater(good, 500)


class Answers(Notes):
    def fails(self, text, error, place):
        with self.assertRaises(errors.DeedsError) as taken:
            answers(text)
        self.assertIs(type(taken.exception), error)
        self.assertEqual(taken.exception.place, place)

    def test_in_their_order(self):
        self.assertEqual(answers(FULL), ["-2", "No()"])
        self.assertEqual(answers("ask 3\nask 1\nask 2\nask -4"), ["3", "1", "2", "-4"])
        self.assertEqual(answers("ask plus(1, 2)\nclass c\nask under(1, 2)"), ["3", "Yes()"])
        self.assertEqual(answers("kind list 1 = End() Link(0, list(0))\nask Link(plus(1, 1), Link(3, End()))"), [
            "Link(2, Link(3, End()))"])

    def test_without_asks(self):
        self.assertEqual(answers(""), [])
        self.assertEqual(answers("class c"), [])
        self.assertEqual(answers("def f = 1\ndef g = f()"), [])

    def test_refused_as_in_read(self):
        self.fails("ask 1\nask", NoWords, (1, 0))
        self.fails(None, NoWords, None)
        self.fails("\n".join(["ask 1"] * 41), NoWords, None)

    def test_then_as_by_found(self):
        self.fails("class c\nclass c", errors.Twice, (1, 0))
        self.fails("ask 1\nask x", errors.NoSuch, (1, 1))
        self.fails("ask plus(1, No())\nask x", errors.Unfit, (0, 3))
        self.fails("class c\nclass c\nask", NoWords, (2, 0))
        self.fails("ask x\nclass c\nclass c", errors.Twice, (2, 0))

    LOOPS = """kind some 1 = Some(0)
class c
deed on c (0) 0
deed wrap c (0, whole) some(0)
house c whole
does c whole on x = on(x)
once wrap x y = Some(x)
kind tree 0 = Leaf() Node(tree, tree)
deed grow c (0, tree) tree
once grow x y = grow(x, Node(y, y))
"""

    def test_then_as_the_first_ask_that_is_refused(self):
        self.assertEqual(answers(self.LOOPS + "ask wrap(1, 2)"), ["Some(1)"])
        self.fails(self.LOOPS + "ask 1\nask on(1)\nask grow(1, Leaf())", errors.TooLong, None)
        self.fails(self.LOOPS + "ask 1\nask grow(1, Leaf())\nask on(1)", errors.TooGreat, None)
        self.fails(self.LOOPS + "ask on(1)\nask x", errors.NoSuch, (11, 1))

    def test_great_numbers(self):
        """A thousand steps, each one making the number eightfold."""
        text = """kind box 1 = Box(0)
class c
deed big c (0, whole) 0
house c whole
does c whole big x y = [under(0, y): Yes() [Box(plus(x, x)): Box(x) [Box(plus(x, x)): Box(x) \
big(plus(x, x), minus(y, 1))]]; No() x]
ask big(1, 999)
ask big(-1, 999)"""
        figures = []
        number = 8 ** 999
        while number:
            figures.append("0123456789"[number % 10])
            number //= 10
        self.assertEqual(answers(text), ["".join(reversed(figures)), "-" + "".join(reversed(figures))])

    def test_against_the_tables(self):
        random = chance(263)
        many = 0
        while many < 100:
            rows = some_program(random, 0)
            try:
                run = ByTables(made(Found(rows)))
                told = [run.asked(number)[0] for number in range(sum(row[0] == "ask" for row in rows))]
            except errors.DeedsError as error:
                self.fails(show(rows), type(error), error.place)
                continue
            many += 1
            self.assertEqual(answers(show(rows)), [written(value) for value in told])


def written(value):
    return str(value) if isinstance(value, int) else value[0] + "(" + ", ".join(map(written, value[1:])) + ")"


class NothingKept(unittest.TestCase):
    def test_lists_are_the_askers_own(self):
        rows = read(FULL)
        rows.clear()
        self.assertEqual(read(FULL), full())
        empty = read("")
        empty.append(None)
        self.assertEqual(read(""), [])
        told = answers(FULL)
        told.clear()
        self.assertEqual(answers(FULL), ["-2", "No()"])
        none = answers("")
        none.append(None)
        self.assertEqual(answers(""), [])

    def test_a_program_that_is_written_stays(self):
        rows = full()
        show(rows)
        self.assertEqual(rows, full())


if __name__ == "__main__":
    unittest.main()
