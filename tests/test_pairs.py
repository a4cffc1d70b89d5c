"""Points 2, 15 and 16: kinddeeds.pairs, and what Found refuses by 15."""

import unittest

from chances import some_program
from kinddeeds import errors
from kinddeeds.found import Found
from kinddeeds.lore import Lore
from kinddeeds.pairs import pairs_of
from programs import NO, ONE, TRUTH, WHOLE, X, Y, YES, call, case, form
from samples import chance
from slowly import Refused, SlowBody, SlowLore, in_order, told_open

Z = ("name", "z")
END = form("End")
P0, P1, P2 = ("'0",), ("'1",), ("'2",)
ROWS = [
    ("kind", "list", 1, (("End", ()), ("Link", (0, ("list", 0))))),  # 0
    ("kind", "pair", 2, (("Pair", (0, 1)),)),
    ("kind", "trio", 3, (("Trio", (0, 1, 2)), ("Solo", (("pair", 2, ("list", 1)),)), ("Void", ()))),
    ("kind", "unit", 0, (("Unit", ()),)),
    ("kind", "shade", 2, (("Dark", (1,)), ("Light", ()), ("Grey", (WHOLE, 1)), ("Red", (TRUTH,)))),
    ("class", "c", ()),  # 5
    ("deed", "join", "c", (0, ("list", 0)), ("list", 0)),
    ("deed", "make", "c", (), 0),
    ("deed", "size", "c", (0,), WHOLE),
    ("deed", "pick", "c", (TRUTH, ("pair", 0, ("list", 0)), 0), ("pair", WHOLE, 0)),
]


def listed(kind):
    return ("list", kind)


def paired(one, other):
    return ("pair", one, other)


class Pairs(unittest.TestCase):
    def pairs(self, row, pairs, told=None, ahead=()):
        """The row stands behind those of above and those ahead of it."""
        rows = ROWS + list(ahead) + [row]
        told = {} if told is None else told
        kept = dict(told)
        self.assertEqual(pairs_of(Lore(rows), told, len(rows) - 1), pairs)
        self.assertEqual(told, kept)

    def asked(self, expression, pairs):
        self.pairs(("ask", expression), pairs)


class OfNodes(Pairs):
    def test_numbers(self):
        self.asked(ONE, [(1, 1, WHOLE)])
        self.asked(("number", -10 ** 59), [(1, 1, WHOLE)])

    def test_forms_without_args(self):
        self.asked(NO, [(1, 1, TRUTH)])
        self.asked(form("Unit"), [(1, 1, ("unit",))])
        self.asked(END, [(1, 1, listed(100))])
        self.asked(form("Void"), [(1, 1, ("trio", 100, 101, 102))])

    def test_forms_with_args(self):
        self.asked(form("Link", ONE, END), [
            (2, 2, WHOLE), (2, 2, 100), (3, 3, listed(101)), (3, 3, listed(100)), (1, 1, listed(100)),
        ])
        self.asked(form("Pair", END, form("Pair", ONE, NO)), [
            (2, 2, listed(102)), (2, 2, 100), (4, 4, WHOLE), (4, 4, 103), (5, 5, TRUTH), (5, 5, 104),
            (3, 3, paired(103, 104)), (3, 3, 101), (1, 1, paired(100, 101)),
        ])
        self.asked(form("Trio", ONE, ONE, END), [
            (2, 2, WHOLE), (2, 2, 100), (3, 3, WHOLE), (3, 3, 101), (4, 4, listed(103)), (4, 4, 102),
            (1, 1, ("trio", 100, 101, 102)),
        ])

    def test_forms_that_do_not_have_all_parts(self):
        self.asked(form("Solo", END), [
            (2, 2, listed(103)), (2, 2, paired(102, listed(101))), (1, 1, ("trio", 100, 101, 102)),
        ])
        self.asked(form("Dark", form("Grey", ONE, YES)), [
            (3, 3, WHOLE), (3, 3, WHOLE), (4, 4, TRUTH), (4, 4, 103), (2, 2, ("shade", 102, 103)), (2, 2, 101),
            (1, 1, ("shade", 100, 101)),
        ])

    def test_own_functions_take_no_new_kinds(self):
        for name, result in [("plus", WHOLE), ("minus", WHOLE), ("under", TRUTH)]:
            self.asked(form("Link", call(name, ONE, NO), END), [
                (3, 3, WHOLE), (3, 3, WHOLE), (4, 4, TRUTH), (4, 4, WHOLE), (2, 2, result), (2, 2, 100),
                (5, 5, listed(101)), (5, 5, listed(100)), (1, 1, listed(100)),
            ])

    def test_deeds(self):
        self.asked(call("make"), [(1, 1, 100)])
        self.asked(call("size", END), [(2, 2, listed(101)), (2, 2, 100), (1, 1, WHOLE)])
        self.asked(call("join", call("make"), call("join", ONE, END)), [
            (2, 2, 101), (2, 2, 100), (4, 4, WHOLE), (4, 4, 102), (5, 5, listed(103)), (5, 5, listed(102)),
            (3, 3, listed(102)), (3, 3, listed(100)), (1, 1, listed(100)),
        ])
        self.asked(call("pick", YES, call("make"), ONE), [
            (2, 2, TRUTH), (2, 2, TRUTH), (3, 3, 101), (3, 3, paired(100, listed(100))), (4, 4, WHOLE), (4, 4, 100),
            (1, 1, paired(WHOLE, 100)),
        ])

    def test_defs_by_what_is_told(self):
        ahead = [("def", "f", ("x", "y"), X)]
        expression = call("f", END, ONE)
        for told, pairs in [
            (((0, 0), 0, ()), [(2, 2, listed(101)), (2, 2, 100), (3, 3, WHOLE), (3, 3, 100), (1, 1, 100)]),
            (((paired(0, 1), 0), listed(2), (("c", 1), ("c", 2))), [
                (2, 2, listed(103)), (2, 2, paired(100, 101)), (3, 3, WHOLE), (3, 3, 100), (1, 1, listed(102))]),
            (((WHOLE, listed(0)), paired(0, 0), (("c", 0),)), [
                (2, 2, listed(101)), (2, 2, WHOLE), (3, 3, WHOLE), (3, 3, listed(100)), (1, 1, paired(100, 100))]),
            (((WHOLE, TRUTH), TRUTH, ()), [
                (2, 2, listed(100)), (2, 2, WHOLE), (3, 3, WHOLE), (3, 3, TRUTH), (1, 1, TRUTH)]),
        ]:
            self.pairs(("ask", expression), pairs, {"f": told}, ahead)
            self.pairs(("def", "g", (), expression), pairs, {"f": told}, ahead)

    def test_a_def_without_params(self):
        told = {"f": ((), paired(0, paired(1, 0)), ())}
        self.pairs(("ask", call("f")), [(1, 1, paired(100, paired(101, 100)))], told, [("def", "f", (), ONE)])

    def test_cases(self):
        self.asked(case(form("Link", ONE, END), ("End", (), ONE), ("Link", ("x", "y"), X)), [
            (3, 3, WHOLE), (3, 3, 101), (4, 4, listed(102)), (4, 4, listed(101)), (2, 2, listed(101)),
            (2, 2, listed(100)), (5, 5, WHOLE), (5, 5, 1), (6, 6, 100), (6, 6, 1),
        ])
        self.asked(case(END, ("Link", ("x", "y"), Y), ("End", (), END)), [
            (2, 2, listed(101)), (2, 2, listed(100)), (3, 3, listed(100)), (3, 3, 1), (4, 4, listed(102)), (4, 4, 1),
        ])
        self.asked(case(NO, ("Yes", (), ONE), ("No", (), NO)), [
            (2, 2, TRUTH), (2, 2, TRUTH), (3, 3, WHOLE), (3, 3, 1), (4, 4, TRUTH), (4, 4, 1),
        ])
        self.asked(case(form("Unit"), ("Unit", (), ONE)), [
            (2, 2, ("unit",)), (2, 2, ("unit",)), (3, 3, WHOLE), (3, 3, 1),
        ])

    def test_a_case_of_three_parts_and_of_four_arms(self):
        self.asked(case(form("Void"), ("Solo", ("x",), X), ("Trio", ("z", "x", "y"), X), ("Void", (), ONE)), [
            (2, 2, ("trio", 103, 104, 105)), (2, 2, ("trio", 100, 101, 102)), (3, 3, paired(102, listed(101))),
            (3, 3, 1), (4, 4, 101), (4, 4, 1), (5, 5, WHOLE), (5, 5, 1),
        ])
        arms = (("Grey", ("x", "y"), Y), ("Red", ("x",), X), ("Light", (), ONE), ("Dark", ("x",), X))
        self.asked(case(form("Light"), *arms), [
            (2, 2, ("shade", 102, 103)), (2, 2, ("shade", 100, 101)), (3, 3, 101), (3, 3, 1), (4, 4, TRUTH), (4, 4, 1),
            (5, 5, WHOLE), (5, 5, 1), (6, 6, 101), (6, 6, 1),
        ])

    def test_new_kinds_by_rising_numbers(self):
        """A case in an arm, a call of a deed behind it, a form in what is looked at."""
        inner = case(Y, ("Pair", ("y", "z"), call("size", Y)))
        self.asked(case(form("Link", END, END), ("Link", ("x", "y"), case(X, ("Link", ("y", "x"), inner), (
            "End", (), call("make")))), ("End", (), END)), [
            (3, 3, listed(102)), (3, 3, 101), (4, 4, listed(103)), (4, 4, listed(101)), (2, 2, listed(101)),
            (2, 2, listed(100)),
            (6, 6, 100), (6, 6, listed(104)),
            (8, 8, 104), (8, 8, paired(105, 106)),
            (10, 10, 105), (10, 10, 107), (9, 9, WHOLE), (9, 9, 7), (7, 7, 5),
            (11, 11, 108), (11, 11, 5), (5, 5, 1),
            (12, 12, listed(109)), (12, 12, 1),
        ])

    def test_the_innermost_name_serves(self):
        inner = case(X, ("Pair", ("x", "y"), form("Pair", X, Y)))
        self.pairs(("def", "f", ("x", "y"), case(Y, ("Pair", ("z", "x"), form("Pair", inner, form("Pair", X, Y))))), [
            (2, 2, 51), (2, 2, paired(100, 101)),
            (5, 5, 101), (5, 5, paired(104, 105)),
            (7, 7, 104), (7, 7, 106), (8, 8, 105), (8, 8, 107), (6, 6, paired(106, 107)), (6, 6, 4), (4, 4, 102),
            (10, 10, 101), (10, 10, 108), (11, 11, 51), (11, 11, 109), (9, 9, paired(108, 109)), (9, 9, 103),
            (3, 3, paired(102, 103)), (3, 3, 1),
        ])


class OfRows(Pairs):
    def test_defs(self):
        self.pairs(("def", "f", ("x",), X), [(1, 1, 50)])
        self.pairs(("def", "f", ("z", "x", "y"), form("Trio", X, Y, Z)), [
            (2, 2, 51), (2, 2, 100), (3, 3, 52), (3, 3, 101), (4, 4, 50), (4, 4, 102), (1, 1, ("trio", 100, 101, 102)),
        ])
        self.pairs(("def", "f", (), END), [(1, 1, listed(100))])

    def test_asks(self):
        self.pairs(("ask", call("make")), [(1, 1, 100)])

    def test_once_rows(self):
        self.pairs(("once", "size", ("x",), ONE), [(1, 1, WHOLE), (1, 1, WHOLE)])
        self.pairs(("once", "make", (), call("make")), [(1, 1, 100), (1, 1, P0)])
        self.pairs(("once", "join", ("y", "x"), form("Link", Y, X)), [
            (2, 2, P0), (2, 2, 100), (3, 3, listed(P0)), (3, 3, listed(100)), (1, 1, listed(100)), (1, 1, listed(P0)),
        ])
        self.pairs(("once", "pick", ("x", "y", "z"), form("Trio", X, Y, Z)), [
            (2, 2, TRUTH), (2, 2, 100), (3, 3, paired(P0, listed(P0))), (3, 3, 101), (4, 4, P0), (4, 4, 102),
            (1, 1, ("trio", 100, 101, 102)), (1, 1, paired(WHOLE, P0)),
        ])

    def does(self, kind, many, deed, names, expression, pairs):
        """A does row behind the house row that it is of."""
        onces = [("once", name, args, ONE) for name, args in [
            ("join", ("x", "y")), ("make", ()), ("size", ("x",)), ("pick", ("x", "y", "z"))]]
        ahead = onces + [("house", "c", kind, (None,) * many)]
        self.pairs(("does", "c", kind, deed, names, expression), pairs, {}, ahead)

    def test_does_rows(self):
        self.does("whole", 0, "make", (), ONE, [(1, 1, WHOLE), (1, 1, WHOLE)])
        self.does("truth", 0, "size", ("x",), X, [(1, 1, TRUTH), (1, 1, WHOLE)])
        self.does("list", 1, "size", ("x",), X, [(1, 1, listed(P0)), (1, 1, WHOLE)])
        self.does("list", 1, "join", ("x", "y"), Y, [(1, 1, listed(listed(P0))), (1, 1, listed(listed(P0)))])
        self.does("pair", 2, "make", (), call("make"), [(1, 1, 100), (1, 1, paired(P0, P1))])
        trio = ("trio", P0, P1, P2)
        self.does("trio", 3, "pick", ("z", "y", "x"), form("Pair", Y, X), [
            (2, 2, paired(trio, listed(trio))), (2, 2, 100), (3, 3, trio), (3, 3, 101), (1, 1, paired(100, 101)),
            (1, 1, paired(WHOLE, trio)),
        ])

    def test_the_end_stands_behind_all_pairs(self):
        self.does("list", 1, "size", ("x",), case(X, ("End", (), ONE), ("Link", ("y", "x"), call("size", Y))), [
            (2, 2, listed(P0)), (2, 2, listed(100)), (3, 3, WHOLE), (3, 3, 1), (5, 5, 100), (5, 5, 101), (4, 4, WHOLE),
            (4, 4, 1), (1, 1, WHOLE),
        ])

    def test_needs_of_houses_change_nothing(self):
        for needs in [(None,), ("c",)]:
            self.pairs(("does", "c", "list", "size", ("x",), ONE), [(1, 1, WHOLE), (1, 1, WHOLE)], {}, [
                ("once", "join", ("x", "y"), Y), ("once", "make", (), ONE), ("once", "pick", ("x", "y", "z"), X),
                ("house", "c", "list", needs)])


class Refusals(unittest.TestCase):
    def refused(self, expression, error, node, names=("x", "y"), ahead=()):
        """In a def of these names, behind the rows of above and those ahead of it: by pairs_of and by Found."""
        rows = ROWS + list(ahead) + [("def", "f", names, expression)]
        number = len(rows) - 1
        told = {row[1]: (tuple(range(len(row[2]))), 0, ()) for row in ahead if row[0] == "def"}
        for done in [lambda: pairs_of(Lore(rows), told, number), lambda: Found(rows)]:
            with self.assertRaises(errors.DeedsError) as taken:
                done()
            self.assertIs(type(taken.exception), error)
            self.assertEqual(taken.exception.place, (number, node))


class NoSuch(Refusals):
    def test_names(self):
        self.refused(Z, errors.NoSuch, 1)
        self.refused(X, errors.NoSuch, 1, ())
        self.refused(form("Pair", X, Z), errors.NoSuch, 3)
        self.refused(case(Z, ("Unit", (), X)), errors.NoSuch, 2)
        self.refused(case(NO, ("No", (), X), ("Yes", (), Z)), errors.NoSuch, 4)

    def test_names_of_functions_forms_and_kinds_are_no_names(self):
        for name in ["plus", "size", "f", "list", "c", "truth"]:
            self.refused(("name", name), errors.NoSuch, 1)

    def test_names_of_another_arm(self):
        arms = (("Link", ("z", "u"), Z), ("End", (), Z))
        self.refused(case(END, *arms), errors.NoSuch, 4)
        self.refused(case(END, *arms[::-1]), errors.NoSuch, 3)

    def test_names_of_an_arm_in_what_is_looked_at(self):
        self.refused(case(Z, ("Link", ("z", "u"), X), ("End", (), X)), errors.NoSuch, 2)

    def test_names_of_an_arm_behind_the_case(self):
        inner = case(X, ("Pair", ("z", "u"), Z))
        self.refused(form("Pair", inner, Z), errors.NoSuch, 5)

    def test_names_in_asks_once_and_does_rows(self):
        self.assertPlace([("ask", X)], (0, 1))
        rows = ROWS[:6] + [("deed", "d", "c", (0,), 0), ("once", "d", ("x",), Y), ("house", "c", "whole", ()),
                           ("does", "c", "whole", "d", ("y",), X)]
        self.assertPlace(rows, (7, 1))
        self.assertPlace(rows[:7] + rows[8:], (8, 1))

    def assertPlace(self, rows, place):
        with self.assertRaises(errors.NoSuch) as taken:
            Found(rows)
        self.assertEqual(taken.exception.place, place)

    def test_forms(self):
        self.refused(form("Nothing"), errors.NoSuch, 1)
        self.refused(form("Pair", X, form("Nothing", X, Y)), errors.NoSuch, 3)
        self.refused(case(X, ("Nothing", (), X)), errors.NoSuch, 1)
        self.refused(case(X, ("End", (), X), ("Nothing", ("x", "y"), X)), errors.NoSuch, 1)

    def test_functions(self):
        for name in ["nothing", "x", "c", "list", "whole"]:
            self.refused(call(name), errors.NoSuch, 1)
            self.refused(form("Pair", call("plus", X, call(name, X)), Y), errors.NoSuch, 4)

    def test_a_def_in_itself(self):
        self.refused(call("f", X, Y), errors.NoSuch, 1)
        self.refused(case(NO, ("No", (), X), ("Yes", (), call("f", X, Y))), errors.NoSuch, 4)

    def test_a_def_that_is_told_behind(self):
        rows = [("def", "f", (), call("g")), ("def", "g", (), ONE)]
        self.assertPlace(rows, (0, 1))
        with self.assertRaises(errors.NoSuch):
            pairs_of(Lore(rows), {"f": ((), WHOLE, ()), "g": ((), WHOLE, ())}, 0)
        self.assertEqual(pairs_of(Lore(rows[::-1]), {"g": ((), TRUTH, ())}, 1), [(1, 1, TRUTH)])
        self.assertPlace([("def", "f", (), ONE), ("def", "g", (), call("h")), ("def", "h", (), call("f"))], (1, 1))

    def test_a_kind_or_a_class_of_a_defs_name_is_no_def(self):
        rows = [("kind", "f", 0, (("One", ()),)), ("class", "f", ()), ("def", "g", (), call("f")),
                ("def", "f", (), ONE)]
        self.assertPlace(rows, (2, 1))
        with self.assertRaises(errors.NoSuch):
            pairs_of(Lore(rows), {"f": ((), WHOLE, ())}, 2)
        self.assertEqual(pairs_of(Lore(rows[:2] + rows[:1:-1]), {"f": ((), WHOLE, ())}, 3), [(1, 1, WHOLE)])

    def test_a_def_does_not_serve_in_itself_whatever_is_told(self):
        rows = [("def", "f", ("x",), call("f", X))]
        with self.assertRaises(errors.NoSuch) as taken:
            pairs_of(Lore(rows), {"f": ((0,), 0, ())}, 0)
        self.assertEqual(taken.exception.place, (0, 1))

    def test_defs_serve_in_all_once_does_and_ask_rows(self):
        rows = [
            ("ask", call("f")), ("class", "c", ()), ("deed", "d", "c", (0,), WHOLE), ("once", "d", ("x",), call("f")),
            ("house", "c", "whole", ()), ("house", "c", "truth", ()), ("does", "c", "whole", "d", ("x",), call("g", X)),
            ("def", "f", (), ONE), ("def", "g", ("x",), call("f")),
        ]
        for order in [rows, rows[5:] + rows[:5], rows[7:] + rows[:7]]:
            found = Found(order)
            self.assertEqual(found.told("g"), ((0,), WHOLE, ()))
        told = {"f": ((), TRUTH, ()), "g": ((0,), 0, ())}
        self.assertEqual(pairs_of(Lore(rows), told, 0), [(1, 1, TRUTH)])
        self.assertEqual(pairs_of(Lore(rows), told, 3), [(1, 1, TRUTH), (1, 1, WHOLE)])
        self.assertEqual(pairs_of(Lore(rows), told, 6), [(2, 2, WHOLE), (2, 2, 100), (1, 1, 100), (1, 1, WHOLE)])


class Miscount(Refusals):
    def test_forms(self):
        for expression in [form("End", X), form("Link"), form("Link", X), form("Link", X, Y, X), form("Trio", X, Y),
                           form("No", X), form("Unit", X), form("Pair")]:
            self.refused(expression, errors.Miscount, 1)
            self.refused(form("Pair", Y, expression), errors.Miscount, 3)

    def test_functions(self):
        ahead = [("def", "g", ("x",), ONE), ("def", "h", (), ONE)]
        for expression in [call("plus"), call("plus", X), call("minus", X, Y, X), call("under", X), call("size"),
                           call("size", X, Y), call("make", X), call("join", X), call("join", X, Y, X),
                           call("pick", X, Y), call("g"), call("g", X, Y), call("h", X)]:
            self.refused(expression, errors.Miscount, 1, ("x", "y"), ahead)
            self.refused(form("Pair", Y, expression), errors.Miscount, 3, ("x", "y"), ahead)

    def test_names_of_arms(self):
        self.refused(case(X, ("End", ("x",), X), ("Link", ("x", "y"), X)), errors.Miscount, 1)
        self.refused(case(X, ("End", (), X), ("Link", ("x",), X)), errors.Miscount, 1)
        self.refused(case(X, ("Link", ("x", "y", "z"), X), ("End", (), X)), errors.Miscount, 1)
        self.refused(case(X, ("Pair", (), X)), errors.Miscount, 1)
        self.refused(form("Pair", X, case(X, ("Unit", ("x",), X))), errors.Miscount, 3)


class Lacks(Refusals):
    def test_forms_left_out(self):
        self.refused(case(X, ("End", (), X)), errors.Lacks, 1)
        self.refused(case(X, ("Link", ("x", "y"), X)), errors.Lacks, 1)
        self.refused(case(X, ("Yes", (), X)), errors.Lacks, 1)
        self.refused(case(X, ("Void", (), X), ("Solo", ("x",), X)), errors.Lacks, 1)
        self.refused(form("Pair", X, case(X, ("No", (), X))), errors.Lacks, 3)

    def test_forms_twice(self):
        self.refused(case(X, ("No", (), X), ("Yes", (), X), ("No", (), X)), errors.Lacks, 1)
        self.refused(case(X, ("No", (), X), ("No", (), X)), errors.Lacks, 1)
        self.refused(case(X, ("Unit", (), X), ("Unit", (), X)), errors.Lacks, 1)

    def test_forms_of_several_kinds(self):
        self.refused(case(X, ("No", (), X), ("Yes", (), X), ("Unit", (), X)), errors.Lacks, 1)
        self.refused(case(X, ("Unit", (), X), ("No", (), X), ("Yes", (), X)), errors.Lacks, 1)
        self.refused(case(X, ("No", (), X), ("End", (), X)), errors.Lacks, 1)
        self.refused(case(X, ("Pair", ("x", "y"), X), ("Unit", (), X)), errors.Lacks, 1)


class TheFirstOfSeveral(Refusals):
    def test_by_nodes(self):
        """Each fault alone, then two of them in one form, either way round."""
        faults = [(Z, errors.NoSuch), (form("End", X), errors.Miscount), (case(X, ("No", (), X)), errors.Lacks),
                  (call("nothing"), errors.NoSuch), (call("plus"), errors.Miscount)]
        for one, error in faults:
            for other, behind in faults:
                self.refused(form("Pair", one, other), error, 2)
                self.refused(form("Pair", Y, form("Pair", one, other)), error, 4)

    def test_a_node_ahead_of_its_parts(self):
        self.refused(form("Link", Z), errors.Miscount, 1)
        self.refused(call("nothing", Z), errors.NoSuch, 1)
        self.refused(call("size", Z, Z), errors.Miscount, 1)
        self.refused(case(Z, ("No", (), Z)), errors.Lacks, 1)
        self.refused(case(Z, ("No", (), Z), ("Yes", (), form("Link"))), errors.NoSuch, 2)

    def test_at_one_node_no_such_ahead_of_miscount_ahead_of_lacks(self):
        self.refused(case(X, ("End", ("x",), X), ("Nothing", (), X)), errors.NoSuch, 1)
        self.refused(case(X, ("Nothing", (), X), ("End", ("x",), X)), errors.NoSuch, 1)
        self.refused(case(X, ("End", (), X), ("Nothing", (), X)), errors.NoSuch, 1)
        self.refused(case(X, ("End", (), X), ("End", (), X), ("Nothing", (), X)), errors.NoSuch, 1)
        self.refused(case(X, ("End", ("x",), X)), errors.Miscount, 1)
        self.refused(case(X, ("No", (), X), ("Unit", ("x",), X)), errors.Miscount, 1)
        self.refused(case(X, ("No", (), X), ("No", (), X), ("Yes", ("x",), X)), errors.Miscount, 1)

    def test_ahead_of_kinds_that_do_not_fit(self):
        self.refused(form("Pair", call("plus", NO, NO), Z), errors.NoSuch, 5)
        self.refused(form("Pair", call("plus", NO, NO), form("End", X)), errors.Miscount, 5)
        self.refused(form("Pair", call("plus", NO, NO), case(X, ("No", (), X))), errors.Lacks, 5)

    def test_ahead_of_needs_that_are_not_met(self):
        self.refused(form("Pair", call("size", ONE), Z), errors.NoSuch, 4)

    def test_pairs_of_looks_at_one_body_alone(self):
        rows = [("def", "f", (), X), ("ask", ONE), ("ask", Y)]
        self.assertEqual(pairs_of(Lore(rows), {}, 1), [(1, 1, WHOLE)])
        for number in [0, 2]:
            with self.assertRaises(errors.NoSuch) as taken:
                pairs_of(Lore(rows), {}, number)
            self.assertEqual(taken.exception.place, (number, 1))


def some_told(random, params):
    """A told kind by chance, its open kinds numbered as they first stand."""
    def kind(depth):
        if depth == 0 or random.randrange(2):
            return random.choice([5, 6, 7, WHOLE])
        return random.choice([("list", kind(depth - 1)), ("pair", kind(depth - 1), kind(depth - 1))])

    kinds = [kind(2) for place in range(params + 1)]
    numbers = {number: place for place, number in enumerate(in_order(kinds))}
    told = [told_open(one, numbers) for one in kinds]
    return (tuple(told[:-1]), told[-1], ())


class AgainstAnotherWay(unittest.TestCase):
    def test_pairs_and_refusals(self):
        random = chance(161)
        seen = {}
        for step in range(1500):
            rows = some_program(random, step % 3)
            lore, slow = Lore(rows), SlowLore(rows)
            told = {row[1]: some_told(random, len(row[2])) for row in rows if row[0] == "def"}
            for number, row in enumerate(rows):
                if row[0] in ("def", "once", "does", "ask"):
                    sort = self.one_body(lore, slow, told, number)
                    seen[sort] = seen.get(sort, 0) + 1
        for sort in ["pairs", "NoSuch", "Miscount", "Lacks"]:
            self.assertGreater(seen[sort], 10, seen)

    def one_body(self, lore, slow, told, number):
        body = SlowBody(slow, told, number)
        kept = dict(told)
        try:
            body.look()
        except Refused as refusal:
            with self.assertRaises(errors.DeedsError) as taken:
                pairs_of(lore, told, number)
            self.assertEqual((type(taken.exception).__name__, taken.exception.place), refusal.args)
            return refusal.args[0]
        body.make_pairs()
        self.assertEqual(pairs_of(lore, told, number), body.pairs)
        self.assertEqual(told, kept)
        return "pairs"


class NothingKept(unittest.TestCase):
    def test_each_list_is_the_askers_own(self):
        rows = ROWS + [("def", "f", ("x",), call("size", X)), ("ask", call("f", ONE))]
        lore = Lore(rows)
        told = {"f": ((0,), WHOLE, (("c", 0),))}
        first = pairs_of(lore, told, len(rows) - 1)
        kept = list(first)
        first.reverse()
        first.append(None)
        self.assertEqual(pairs_of(lore, told, len(rows) - 1), kept)
        again = pairs_of(lore, told, len(rows) - 1)
        told.clear()
        self.assertEqual(again, kept)
        self.assertEqual(lore.rows(), rows)

    def test_the_functions_of_themselves_stay(self):
        lore = Lore([("ask", call("plus", ONE, ONE))])
        before = pairs_of(lore, {}, 0)
        Found([("def", "f", ("x",), X), ("ask", call("f", ONE))])
        self.assertEqual(pairs_of(lore, {}, 0), before)
        with self.assertRaises(errors.NoSuch):
            pairs_of(Lore([("ask", call("f", ONE))]), {}, 0)


if __name__ == "__main__":
    unittest.main()
