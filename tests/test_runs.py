"""Points 2, 21, 22 and 24: kinddeeds.runs."""

import unittest

from kinddeeds import errors
from kinddeeds.found import Found
from kinddeeds.making import made
from kinddeeds.notes import read
from kinddeeds.runs import ByKinds, ByTables, Run
from programs import full
from slowly import SlowFound, SlowRun


def rows_of(text):
    """The rows that the lines of a text write, blanks ahead of them left out."""
    return read("\n".join(line.strip() for line in text.strip().split("\n")))


def both(rows):
    found = Found(rows)
    return [ByKinds(found), ByTables(made(found))]


def outcome(run, number):
    """What the ask comes to, or the error's name and its place."""
    try:
        return run.asked(number)
    except errors.DeedsError as error:
        return (type(error).__name__, error.place)


class Runs(unittest.TestCase):
    def come_to(self, text, *outcomes):
        """The asks of the text, in their order, by both runs and by the slow one."""
        rows = rows_of(text)
        for run in both(rows):
            for number, told in enumerate(outcomes):
                self.assertEqual(outcome(run, number), told, (type(run), number))
        slow = SlowRun(SlowFound(rows))
        asks = [number for number, row in enumerate(rows) if row[0] == "ask"]
        self.assertEqual(len(asks), len(outcomes))
        for row, told in zip(asks, outcomes):
            self.assertEqual(slow.ask(row), told)


NO, YES, END = ("No",), ("Yes",), ("End",)


class Values(Runs):
    def test_numbers(self):
        self.come_to(
            "ask 0\nask 5\nask -7\nask " + "9" * 60 + "\nask -" + "9" * 60,
            (0, 0), (5, 0), (-7, 0), (10 ** 60 - 1, 0), (1 - 10 ** 60, 0))

    def test_forms(self):
        self.come_to(
            """kind list 1 = End() Link(0, list(0))
            kind trio 3 = Trio(0, 1, 2)
            ask No()
            ask End()
            ask Link(1, Link(2, End()))
            ask Trio(End(), Yes(), -3)""",
            (NO, 0), (END, 0), (("Link", 1, ("Link", 2, END)), 0), (("Trio", END, YES, -3), 0))

    def test_plus_and_minus(self):
        self.come_to(
            """ask plus(2, 3)
            ask plus(-2, -3)
            ask plus(2, -3)
            ask minus(2, 3)
            ask minus(-2, -3)
            ask minus(3, 2)
            ask minus(plus(1, minus(5, 2)), plus(10, 20))""",
            (5, 0), (-5, 0), (-1, 0), (-1, 0), (1, 0), (1, 0), (-26, 0))

    def test_numbers_are_not_bounded(self):
        nines = "9" * 60
        self.come_to(
            f"ask plus({nines}, {nines})\nask minus(-{nines}, plus({nines}, {nines}))",
            (2 * 10 ** 60 - 2, 0), (3 - 3 * 10 ** 60, 0))

    def test_under(self):
        self.come_to(
            """ask under(2, 3)
            ask under(3, 2)
            ask under(2, 2)
            ask under(0, 0)
            ask under(-3, -2)
            ask under(-2, -3)
            ask under(-2, -2)
            ask under(-1, 0)
            ask under(0, -1)""",
            (YES, 0), (NO, 0), (NO, 0), (NO, 0), (YES, 0), (NO, 0), (NO, 0), (YES, 0), (NO, 0))

    def test_cases(self):
        self.come_to(
            """kind four 0 = A() B() C() D()
            ask [No(): No() 1; Yes() 2]
            ask [Yes(): No() 1; Yes() 2]
            ask [C(): D() 4; C() 3; B() 2; A() 1]
            ask [[under(1, 2): Yes() B(); No() A()]: A() 1; B() 2; C() 3; D() 4]""",
            (1, 0), (2, 0), (3, 0), (2, 0))

    def test_names_of_arms(self):
        self.come_to(
            """kind trio 3 = Trio(0, 1, 2) None()
            kind list 1 = End() Link(0, list(0))
            ask [Trio(1, 2, 3): Trio(x, y, z) minus(minus(z, y), x); None() 7]
            ask [Trio(1, Yes(), End()): None() No(); Trio(z, y, x) y]
            ask [Link(1, Link(2, End())): End() End(); Link(x, y) y]""",
            (0, 0), (YES, 0), (("Link", 2, END), 0))

    def test_the_innermost_name_serves_and_the_outer_one_again_behind_the_case(self):
        self.come_to(
            """kind pair 2 = Pair(0, 1)
            ask [Pair(1, 2): Pair(x, y) plus([Pair(10, 20): Pair(y, x) minus(x, y)], minus(x, y))]
            ask [Pair(Pair(1, 2), 3): Pair(x, y) Pair([x: Pair(x, y) Pair(x, y)], Pair(x, y))]
            def f x = Pair([Pair(5, 6): Pair(x, y) x], x)
            ask f(1)""",
            (9, 0), (("Pair", ("Pair", 1, 2), ("Pair", ("Pair", 1, 2), 3)), 0), (("Pair", 5, 1), 1))


class Defs(Runs):
    def test_steps(self):
        self.come_to(
            """def one = 1
            def f x = plus(x, one())
            def g x y = minus(f(x), f(y))
            ask one()
            ask f(10)
            ask g(10, 2)
            ask g(f(1), one())""",
            (1, 1), (11, 2), (8, 5), (1, 8))

    def test_args_are_come_to_though_they_are_not_used(self):
        self.come_to(
            """def one = 1
            def first x y = x
            ask first(5, one())
            ask first(one(), first(one(), one()))
            ask [first(No(), Yes()): No() 2; Yes() one()]""",
            (5, 2), (1, 5), (2, 1))

    def test_names_of_the_caller_are_not_those_of_the_body(self):
        self.come_to(
            """kind pair 2 = Pair(0, 1)
            def f x y = Pair(x, y)
            def g y x = Pair(f(y, x), f(x, y))
            ask g(1, 2)
            ask [Pair(7, 8): Pair(x, y) f(y, x)]""",
            (("Pair", ("Pair", 1, 2), ("Pair", 2, 1)), 3), (("Pair", 8, 7), 1))

    def test_names_of_other_things(self):
        """Kinds, classes, houses and names like a def's, ahead of it and behind."""
        self.come_to(
            """kind f 0 = F()
            def f f = plus(f, 1)
            class f
            house f f
            deed g f (0) whole
            once g f = f(2)
            def h f = f(f)
            ask f(1)
            ask g(F())
            ask h(5)""",
            (2, 1), (3, 2), (6, 2))

    def test_only_the_arm_that_is_chosen_is_gone_into(self):
        self.come_to(
            """def one = 1
            ask [Yes(): No() plus(one(), one()); Yes() 5]
            ask [No(): No() plus(one(), one()); Yes() 5]""",
            (5, 0), (2, 2))


SHOWN = """
    kind list 1 = End() Link(0, list(0))
    kind pair 2 = Pair(0, 1)
    class like
    class order like
    class more order
    deed same like (0, 0) truth
    deed below order (0, 0) truth
    deed most order (0, 0) 0
    deed first more () 0
    deed beyond more (0) truth
    once most x y = [below(x, y): Yes() y; No() x]
    once beyond x = below(first(), x)
    def both x y = [x: Yes() y; No() No()]
    def not x = [x: Yes() No(); No() Yes()]
    house like whole
    does like whole same x y = both(not(under(x, y)), not(under(y, x)))
    house order whole
    does order whole below x y = under(x, y)
    house more whole
    does more whole first = 0
    house like truth
    does like truth same x y = [x: Yes() y; No() not(y)]
    house order truth
    does order truth below x y = both(not(x), y)
    does order truth most x y = not(both(not(x), not(y)))
    house like list like
    does like list same x y = [x: End() [y: End() Yes(); Link(u, v) No()]; Link(a, b) [y: End() No(); \
Link(u, v) both(same(a, u), same(b, v))]]
    house order list order
    does order list below x y = [y: End() No(); Link(u, v) [x: End() Yes(); Link(a, b) [below(a, u): \
Yes() Yes(); No() both(same(a, u), below(b, v))]]]
    house more list more
    does more list first = End()
    house like pair like like
    does like pair same x y = [x: Pair(a, b) [y: Pair(u, v) both(same(a, u), same(b, v))]]
"""


class Deeds(Runs):
    def shown(self, asks, *outcomes):
        self.come_to(SHOWN + asks, *outcomes)

    def test_does_rows(self):
        self.shown(
            """ask same(3, 3)
            ask same(3, 4)
            ask below(3, 4)
            ask below(No(), Yes())
            ask most(No(), No())
            ask most(Yes(), No())""",
            (YES, 4), (NO, 4), (YES, 1), (YES, 3), (NO, 5), (YES, 5))

    def test_once_rows(self):
        self.shown(
            """ask most(3, 4)
            ask most(4, 3)
            ask most(Link(1, End()), Link(0, End()))
            ask beyond(5)
            ask beyond(-5)""",
            (4, 2), (4, 2), (("Link", 1, END), 9), (YES, 3), (NO, 3))

    def test_deeds_that_go_by_the_result_alone(self):
        self.shown(
            """ask plus(first(), 5)
            ask below(first(), Link(1, End()))
            ask [first(): End() 1; Link(x, y) plus(x, 2)]""",
            (5, 1), (YES, 2), (1, 1))

    def test_houses_with_needs(self):
        self.shown(
            """ask same(Link(1, End()), Link(1, End()))
            ask same(Link(Link(1, End()), End()), Link(Link(2, End()), End()))
            ask same(Pair(1, Link(Yes(), End())), Pair(1, Link(Yes(), End())))
            ask below(Link(1, Link(2, End())), Link(1, Link(3, End())))
            ask below(Link(No(), End()), Link(Yes(), End()))""",
            (YES, 7), (NO, 10), (YES, 10), (YES, 9), (YES, 4))

    def test_elders(self):
        """In the body of order's list the needs of like go by elders; in more's once row by elders of elders."""
        self.come_to(
            SHOWN + """deed odd more (0, 0) truth
            once odd x y = both(same(x, y), below(first(), x))
            ask odd(1, 1)
            ask odd(1, 2)
            ask odd(Link(1, End()), Link(1, End()))
            ask odd(Link(Link(5, End()), End()), Link(Link(5, End()), End()))
            ask odd(End(), Link(1, End()))""",
            (YES, 8), (NO, 8), (YES, 11), (YES, 14), (NO, 5))

    def test_a_def_hands_tables_on(self):
        self.come_to(
            SHOWN + """def twice x y = both(same(x, y), same(Pair(x, y), Pair(y, x)))
            def listed x = Link(x, End())
            def deeper x y = twice(listed(x), listed(y))
            ask twice(1, 1)
            ask deeper(Yes(), No())
            ask deeper(3, 3)""",
            (YES, 16), (NO, 20), (YES, 28))

    def test_a_once_row_at_a_closed_kind_of_any_depth(self):
        """The kind at hand is handed on whole: its parts are met with again by its house."""
        self.come_to(
            """kind list 1 = End() Link(0, list(0))
            class c
            deed much c (0) whole
            deed more c (0, whole) whole
            once more x y = plus(much(Link(x, End())), y)
            house c whole
            does c whole much x = x
            house c list c
            does c list much x = [x: End() 0; Link(y, z) plus(plus(much(y), 100), much(z))]
            ask more(5, 1000)
            ask more(Link(7, Link(8, End())), 1000)
            ask more(Link(Link(7, End()), End()), 1000)""",
            (1105, 4), (1315, 8), (1307, 8))

    def test_does_rows_by_the_parts_of_the_kind_at_hand(self):
        self.come_to(
            """kind trio 3 = Trio(0, 1, 2)
            kind pair 2 = Pair(0, 1)
            class c
            deed d c (0) whole
            house c whole
            does c whole d x = x
            house c truth
            does c truth d x = [x: No() 10; Yes() 20]
            house c trio c - c
            does c trio d x = [x: Trio(a, b, e) minus(d(a), d(e))]
            house c pair - c
            does c pair d x = [x: Pair(a, b) plus(d(b), d(b))]
            ask d(Trio(1, Trio(1, 2, 3), 5))
            ask d(Trio(Yes(), Pair(1, 1), 5))
            ask d(Trio(5, 1, Yes()))
            ask d(Pair(Pair(1, 2), Trio(1, 2, No())))
            ask d(Trio(Trio(No(), 0, 1), 2, Pair(4, Yes())))""",
            (-4, 3), (15, 3), (-15, 3), (-18, 7), (-31, 7))

    def test_elders_by_two_roads_and_of_parts(self):
        self.come_to(
            """kind list 1 = End() Link(0, list(0))
            class base
            class left base
            class right base
            class top left right
            deed low base (0) whole
            deed high top (0) whole
            house base whole
            does base whole low x = x
            house left whole
            house right whole
            house top whole
            does top whole high x = plus(low(x), 1)
            house base list base
            does base list low x = [x: End() 0; Link(y, z) plus(low(y), low(z))]
            house left list left
            house right list base
            house top list top
            does top list high x = [x: End() low(x); Link(y, z) plus(plus(low(y), high(y)), low(z))]
            def f x = minus(high(x), low(x))
            ask high(5)
            ask high(Link(1, Link(20, End())))
            ask f(Link(Link(3, End()), Link(Link(50, End()), End())))""",
            (6, 2), (23, 7), (7, 24))


COUNT = """
    kind list 1 = End() Link(0, list(0))
    kind pair 2 = Pair(0, 1)
    kind some 1 = Some(0)
    class c
    deed down c (0, whole) whole
    deed made c (0, whole) list(whole)
    deed tail c (0, whole) truth
    house c whole
    does c whole down x y = [under(0, y): Yes() plus(1, down(x, minus(y, 1))); No() 0]
    does c whole made x y = [under(0, y): Yes() Link(y, made(x, minus(y, 1))); No() End()]
    does c whole tail x y = [under(0, y): Yes() tail(x, minus(y, 1)); No() Yes()]
    def id x = x
    def count x = down(0, x)
"""
TOO_LONG, TOO_GREAT = ("TooLong", None), ("TooGreat", None)


class Steps(Runs):
    def count(self, asks, *outcomes):
        self.come_to(COUNT + asks, *outcomes)

    def test_1000_steps_are_gone(self):
        """One each time that the deed is gone into, from the number down to nought."""
        self.count(
            """ask down(0, 0)
            ask down(0, 998)
            ask down(0, 999)
            ask down(0, 1000)
            ask tail(0, 999)
            ask tail(0, 1000)
            ask down(0, 5000)""",
            (0, 1), (998, 999), (999, 1000), TOO_LONG, (YES, 1000), TOO_LONG, TOO_LONG)

    def test_calls_of_defs_count(self):
        self.count(
            """ask count(998)
            ask count(999)
            ask id(down(0, 998))
            ask id(down(0, 999))
            ask plus(id(1), down(0, 998))
            ask plus(id(1), down(0, 999))
            ask plus(down(0, 499), down(0, 499))
            ask plus(down(0, 499), down(0, 500))
            ask id(id(id(down(0, 996))))
            ask id(id(id(down(0, 997))))""",
            (998, 1000), TOO_LONG, (998, 1000), TOO_LONG, (999, 1000), TOO_LONG, (998, 1000), TOO_LONG,
            (996, 1000), TOO_LONG)

    def test_own_functions_count_nothing(self):
        self.count(
            """ask plus(plus(1, minus(4, 1)), down(0, 999))
            ask [under(down(0, 999), 3): Yes() 1; No() plus(2, 2)]""",
            (1003, 1000), (4, 1000))

    def test_sizes_of_100_and_101(self):
        """A list of n numbers has a size of 2 n + 1."""
        rows = rows_of(COUNT + "ask made(0, 49)\nask Some(made(0, 49))\nask made(0, 50)\nask Some(Some(made(0, 49)))")
        for run in both(rows):
            value, steps = run.asked(0)
            self.assertEqual((value[:2], steps), (("Link", 49), 50))
            self.assertEqual(run.asked(1), (("Some", value), 50))
            self.assertEqual(outcome(run, 2), TOO_GREAT)
            self.assertEqual(outcome(run, 3), TOO_GREAT)

    def test_sizes_of_several_parts_together(self):
        self.count(
            """ask [Pair(made(0, 24), made(0, 24)): Pair(x, y) 1]
            ask [Pair(Some(made(0, 24)), made(0, 24)): Pair(x, y) 1]
            ask [Pair(made(0, 24), Some(made(0, 24))): Pair(x, y) 1]
            ask [Pair(made(0, 24), made(0, 25)): Pair(x, y) 1]
            ask [Pair(Some(made(0, 24)), Some(made(0, 24))): Pair(x, y) 1]
            ask [Pair(made(0, 49), 1): Pair(x, y) 1]""",
            (1, 50), (1, 50), (1, 50), TOO_GREAT, TOO_GREAT, TOO_GREAT)

    def test_great_numbers_have_a_size_of_one(self):
        rows = rows_of(COUNT + f"ask Link({'9' * 60}, made(0, 48))\nask Pair(1, {'9' * 60})")
        for run in both(rows):
            self.assertEqual(run.asked(0)[0][1], 10 ** 60 - 1)
            self.assertEqual(run.asked(1), (("Pair", 1, 10 ** 60 - 1), 0))

    def test_whichever_comes_first(self):
        self.count(
            """ask Pair(made(0, 50), down(0, 1000))
            ask Pair(down(0, 1000), made(0, 50))
            ask plus(down(0, 990), [made(0, 50): End() 1; Link(x, y) 2])
            ask plus(down(0, 940), [made(0, 50): End() 1; Link(x, y) 2])
            ask made(0, 1000)
            ask made(0, 999)
            ask made(0, 5000)""",
            TOO_GREAT, TOO_LONG, TOO_LONG, TOO_GREAT, TOO_LONG, TOO_GREAT, TOO_LONG)

    def test_a_form_in_an_arm_that_is_not_chosen_is_not_made(self):
        self.count(
            """ask [Yes(): No() made(0, 60); Yes() End()]
            ask [Yes(): No() down(0, 3000); Yes() 1]""",
            (END, 0), (1, 0))

    def test_a_refused_ask_leaves_nothing_behind(self):
        """Each ask counts its steps from none."""
        rows = rows_of(COUNT + "ask down(0, 1000)\nask down(0, 999)\nask made(0, 50)\nask id(3)")
        for run in both(rows):
            for number in [0, 1, 0, 2, 1, 3, 3, 2, 1, 0, 3]:
                self.assertEqual(outcome(run, number), [TOO_LONG, (999, 1000), TOO_GREAT, (3, 1)][number])

    def test_places(self):
        for run in both(rows_of(COUNT + "ask down(0, 1000)\nask made(0, 50)")):
            for number, error in enumerate([errors.TooLong, errors.TooGreat]):
                with self.assertRaises(error) as taken:
                    run.asked(number)
                self.assertIs(type(taken.exception), error)
                self.assertIsNone(taken.exception.place)

    def test_a_deed_without_end(self):
        self.come_to(
            """class c
            deed d c () 0
            deed e c (0) 0
            once d = d()
            once e x = e(e(x))
            house c whole
            ask plus(d(), 1)
            ask e(1)""",
            TOO_LONG, TOO_LONG)


# At each step the kind becomes one of two such parts, while the value stays small.
GROWING = """
    kind ghost 2 = Ghost() Held(0, 1)
    class c
    class top c
    deed grow c (0, whole) whole
    deed up top (0, whole) whole
    deed last c (0) whole
    def veil x = [No(): No() Ghost(); Yes() Held(x, x)]
    once grow x y = [under(0, y): Yes() grow(veil(x), minus(y, 1)); No() last(x)]
    once up x y = [under(0, y): Yes() up(veil(x), minus(y, 1)); No() grow(x, 2)]
    house c whole
    does c whole last x = 5
    house top whole
    house c ghost c c
    does c ghost last x = 6
    house top ghost top top
"""


class KindsThatGrow(Runs):
    def test_by_a_once_row(self):
        self.come_to(GROWING + "ask grow(1, 0)\nask grow(1, 1)\nask grow(1, 499)\nask grow(1, 500)",
                     (5, 2), (6, 4), (6, 1000), TOO_LONG)

    def test_by_elders(self):
        self.come_to(GROWING + "ask up(1, 0)\nask up(1, 496)\nask up(1, 497)", (6, 7), (6, 999), TOO_LONG)

    def test_by_does_rows_and_by_elders_at_each_step(self):
        self.come_to(
            GROWING + """does top ghost up x y = [under(0, y): Yes() plus(last(x), up(veil(x), minus(y, 1))); \
No() grow(x, 2)]
            does c ghost grow x y = [under(0, y): Yes() grow(veil(x), minus(y, 1)); No() plus(last(x), 1)]
            ask up(1, 5)
            ask up(1, 330)
            ask up(1, 335)""",
            (31, 21), (1981, 996), TOO_LONG)

    def test_deeper_by_one_part_at_each_step(self):
        self.come_to(
            """kind list 1 = End() Link(0, list(0))
            class c
            deed deep c (0, whole) whole
            house c whole
            does c whole deep x y = deep(End(), y)
            house c list -
            does c list deep x y = [x: End() 1; Link(u, v) 2]
            house c truth
            does c truth deep x y = far(x, y)
            class e
            deed far e (0, whole) whole
            house e truth
            house e list e
            once far x y = [under(0, y): Yes() plus(1, far(hid(x), minus(y, 1))); No() 0]
            def hid x = [No(): No() End(); Yes() Link(x, End())]
            ask deep(No(), 498)
            ask far(No(), 499)
            ask far(No(), 500)
            ask deep(Link(1, End()), 3)""",
            (498, 998), (499, 999), TOO_LONG, (2, 1))


class TheClasses(unittest.TestCase):
    def test_both_stand_under_run(self):
        for run in both(full()):
            self.assertIsInstance(run, Run)
        self.assertTrue(issubclass(ByKinds, Run) and issubclass(ByTables, Run))
        self.assertFalse(issubclass(ByKinds, ByTables) or issubclass(ByTables, ByKinds))

    def test_what_is_told(self):
        for run in both(full()):
            told = run.asked(0)
            self.assertEqual(told, (-2, 2))
            self.assertIs(type(told), tuple)
            self.assertEqual(run.asked(1), (NO, 1))
            self.assertIs(type(run.asked(1)[0]), tuple)

    def test_in_any_order_and_more_than_once(self):
        rows = rows_of(SHOWN + "ask most(3, 4)\nask plus(first(), 1)\nask same(1, 1)\nask 7")
        for run in both(rows):
            told = [run.asked(number) for number in range(4)]
            self.assertEqual(told, [(4, 2), (1, 1), (YES, 4), (7, 0)])
            for number in [3, 0, 2, 2, 1, 0, 3, 1]:
                self.assertEqual(run.asked(number), told[number])

    def test_asks_are_counted_without_the_other_rows(self):
        for run in both(rows_of("ask 1\nclass c\nask 2\ndef f = 3\nask f()")):
            self.assertEqual([run.asked(number) for number in range(3)], [(1, 0), (2, 0), (3, 1)])


class NothingKept(unittest.TestCase):
    ASKS = "ask most(3, 4)\nask below(Link(1, Link(2, End())), Link(1, End()))\nask not(Yes())"

    def test_a_made_program_changed_later_changes_nothing(self):
        """The second ask goes by elders, by does and once rows and by defs."""
        program = made(Found(rows_of(SHOWN + self.ASKS)))
        run = ByTables(program)
        told = [run.asked(number) for number in range(3)]
        program[0].clear()
        for house in program[1].values():
            house[0].clear()
            house[1].clear()
        program[1].clear()
        program[2].clear()
        self.assertEqual([run.asked(number) for number in range(3)], told)
        self.assertEqual(told[2], (NO, 1))

    def test_a_made_program_stays_as_it_was(self):
        found = Found(rows_of(SHOWN + self.ASKS))
        program = made(found)
        run = ByTables(program)
        for number in range(3):
            run.asked(number)
        self.assertEqual(program, made(found))

    def test_a_program_changed_later_changes_nothing(self):
        rows = full()
        found = Found(rows)
        run = ByKinds(found)
        rows.clear()
        self.assertEqual(run.asked(0), (-2, 2))
        self.assertEqual(ByKinds(found).asked(0), (-2, 2))

    def test_a_made_program_runs_by_itself(self):
        """Written by hand, with names that no rows told."""
        x = ("name", "x")
        program = (
            {"f": (1, ("x",), ("deed", "d", ("given", 0), (x,)))},
            {5: ({}, {"d": (False, ("x",), ("form", "Odd", (x,)))}),
             9: ({"e": ("house", 5, ())}, {"g": (True, (), ("call", "f", (("elder", "e", ("given", 0)),), (
                 ("number", 3),)))})},
            [("call", "f", (("house", 5, ()),), (("number", 1),)), ("deed", "g", ("house", 9, ()), ())],
        )
        run = ByTables(program)
        self.assertEqual(run.asked(0), (("Odd", 1), 2))
        self.assertEqual(run.asked(1), (("Odd", 3), 3))


if __name__ == "__main__":
    unittest.main()
