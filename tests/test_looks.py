"""Points 3 (e) and 11: the looks of kinddeeds.looks, by way of kinddeeds.lore."""

import unittest

from kinddeeds import errors
from kinddeeds.lore import Lore
from programs import ONE, TRUTH, WHOLE, SlowLooks, X, Y, full, with_row, without_row
from samples import chance

LIST = ("kind", "list", 1, (("End", ()), ("Link", (0, ("list", 0)))))
PAIR = ("kind", "pair", 2, (("Pair", (0, 1)),))
C = ("class", "c", ())
D = ("deed", "d", "c", (0,), 0)
ONCE = ("once", "d", ("x",), X)
HOUSE = ("house", "c", "whole", ())
DOES = ("does", "c", "whole", "d", ("x",), X)


def cls(name, *elders):
    return ("class", name, elders)


class Looks(unittest.TestCase):
    def taken(self, rows):
        self.assertEqual(Lore(rows).rows(), rows)

    def refused(self, rows, error, row):
        with self.assertRaises(errors.DeedsError) as taken:
            Lore(rows)
        self.assertIs(type(taken.exception), error, (rows, taken.exception.place))
        self.assertEqual(taken.exception.place, (row, 0), rows)

    def fault(self, good, row, error):
        """The good rows are taken, and with this one behind them refused there; moved down, at the same row."""
        self.taken(good)
        self.refused(good + [row], error, len(good))
        self.refused([("ask", ONE)] * 3 + good + [row, ("ask", ONE)], error, 3 + len(good))


class Twice(Looks):
    def twice(self, ahead, row):
        self.fault(ahead, row, errors.Twice)

    def test_kinds(self):
        self.twice([LIST], ("kind", "list", 0, (("Other", ()),)))
        self.twice([LIST, PAIR], ("kind", "list", 1, (("Other", ()),)))
        self.twice([], ("kind", "whole", 0, (("Other", ()),)))
        self.twice([], ("kind", "truth", 0, (("Other", ()),)))
        self.twice([], ("kind", "whole", 2, (("Other", ()), ("More", (0, 1)))))

    def test_forms(self):
        self.twice([LIST], ("kind", "other", 0, (("End", ()),)))
        self.twice([LIST], ("kind", "other", 0, (("Other", ()), ("Link", ()))))
        self.twice([], ("kind", "other", 0, (("No", ()),)))
        self.twice([], ("kind", "other", 0, (("Yes", ()),)))
        self.twice([], ("kind", "other", 0, (("A", ()), ("B", ()), ("C", ()), ("Yes", ()))))

    def test_forms_in_one_row(self):
        self.twice([], ("kind", "other", 0, (("A", ()), ("A", ()))))
        self.twice([LIST], ("kind", "other", 1, (("A", ()), ("B", ()), ("A", (0,)))))
        self.twice([], ("kind", "other", 1, (("B", ()), ("C", ()), ("A", (0,)), ("A", ()))))

    def test_classes(self):
        self.twice([C], C)
        self.twice([C, cls("b")], cls("c", "b"))
        self.twice([cls("b"), cls("c", "b")], cls("c"))

    def test_functions(self):
        functions = [D, ("def", "d", (), ONE), ("deed", "d", "b", (), 0), ("def", "d", ("x", "y"), Y)]
        for one in functions:
            for other in functions:
                self.twice([C, cls("b"), one], other)

    def test_functions_that_are_there_of_themselves(self):
        for name in ["plus", "minus", "under"]:
            self.twice([C], ("deed", name, "c", (0,), 0))
            self.twice([C], ("def", name, ("x",), X))
            self.twice([], ("def", name, (), ONE))

    def test_onces(self):
        self.twice([C, D, ONCE], ONCE)
        self.twice([C, D, ONCE], ("once", "d", ("y",), ONE))

    def test_houses(self):
        self.twice([C, HOUSE], HOUSE)
        self.twice([C, LIST, ("house", "c", "list", (None,))], ("house", "c", "list", ("c",)))

    def test_does_rows(self):
        self.twice([C, D, HOUSE, DOES], DOES)
        self.twice([C, D, HOUSE, DOES], ("does", "c", "whole", "d", ("y",), ONE))

    def test_what_is_not_twice(self):
        self.taken([
            LIST, PAIR, C, cls("b"), D, ("deed", "e", "c", (0,), 0), ("deed", "f", "b", (0,), 0), ONCE,
            ("once", "e", ("x",), X), ("once", "f", ("x",), X), HOUSE, ("house", "b", "whole", ()),
            ("house", "c", "truth", ()), DOES, ("does", "c", "truth", "d", ("x",), X),
            ("does", "c", "whole", "e", ("x",), X), ("does", "b", "whole", "f", ("x",), X), ("def", "g", (), ONE),
            ("ask", ONE), ("ask", ONE),
        ])
        self.taken([cls("c"), cls("b", "c", "c", "c")])
        self.taken([("kind", "c", 0, (("D", ()),)), C, ("def", "c", (), ONE), ("ask", ONE), ("ask", ONE)])

    def test_the_third_time(self):
        self.refused([C, cls("b"), C, cls("b"), C], errors.Twice, 2)


class NoSuch(Looks):
    def no_such(self, good, row, *tellers):
        """Refused as it stands; taken with the tellers, ahead or behind."""
        self.fault(good, row, errors.NoSuch)
        self.taken(good + [row] + list(tellers))
        self.taken(list(tellers) + good + [row])

    def test_a_made_kind_in_a_kind_row(self):
        other = ("kind", "other", 0, (("Other", ()),))
        for parts in [
            (("other",),), (WHOLE, ("other",)), (0, 0, ("other",)), (("box", ("other",)),),
            (("box", ("box", ("box", ("other",)))),),
        ]:
            self.no_such([], ("kind", "box", 1, (("Box", parts),)), other)
            self.no_such([], ("kind", "box", 1, (("A", ()), ("B", (0,)), ("Box", parts))), other)
        one = ("kind", "one", 1, (("One", ()),))
        self.no_such([], ("kind", "box", 1, (("Box", (("one", 0),)),)), one)
        self.no_such([], ("kind", "box", 1, (("Box", (("one", ("box", 0)),)),)), one)

    def test_a_made_kind_in_a_deed_row(self):
        other = ("kind", "other", 0, (("Other", ()),))
        for kinds in [
            ((("other",),), 0), ((0, ("other",)), WHOLE), ((0,), ("other",)), ((), ("list", ("other",))),
            ((0, 0, ("list", ("list", ("other",)))), 0),
        ]:
            row = ("deed", "d", "c", kinds[0], kinds[1])
            self.fault([C, LIST], row, errors.NoSuch)
            if "0" in repr(kinds):
                self.no_such([C, LIST], row, other)

    def test_what_names_a_kind_is_no_class_nor_function(self):
        row = ("deed", "d", "c", (("c",), ("f",)), 0)
        self.fault([C, ("def", "f", (), ONE)], row, errors.NoSuch)
        self.fault([C, ("def", "f", (), ONE), ("kind", "f", 0, (("F", ()),))], row, errors.NoSuch)

    def test_an_elder(self):
        self.no_such([], cls("c", "b"), cls("b"))
        self.no_such([cls("a")], cls("c", "a", "b"), cls("b"))
        self.no_such([cls("a"), cls("b")], cls("c", "a", "b", "d"), cls("d"))
        self.fault([LIST, ("def", "b", (), ONE)], cls("c", "b"), errors.NoSuch)
        self.fault([LIST], cls("c", "list"), errors.NoSuch)
        self.fault([], cls("c", "whole"), errors.NoSuch)

    def test_the_class_of_a_deed(self):
        self.no_such([], D, C)
        self.no_such([cls("b")], D, C)
        self.fault([("kind", "c", 0, (("F", ()),)), ("def", "c", (), ONE)], D, errors.NoSuch)

    def test_the_class_of_a_house(self):
        self.no_such([], HOUSE, C)
        self.no_such([cls("b")], HOUSE, C)
        self.fault([("kind", "c", 0, (("F", ()),)), ("def", "c", (), ONE)], HOUSE, errors.NoSuch)

    def test_the_kind_of_a_house(self):
        self.no_such([C], ("house", "c", "other", ()), ("kind", "other", 0, (("Other", ()),)))
        self.fault([C, ("def", "other", (), ONE)], ("house", "c", "other", ()), errors.NoSuch)
        self.fault([C], ("house", "c", "c", ()), errors.NoSuch)
        self.taken([C, ("house", "c", "whole", ()), ("house", "c", "truth", ())])

    def test_a_need_of_a_house(self):
        self.no_such([C, LIST], ("house", "c", "list", ("b",)), cls("b"))
        self.no_such([C, PAIR], ("house", "c", "pair", (None, "b")), cls("b"))
        self.no_such([C, PAIR], ("house", "c", "pair", ("b", "c")), cls("b"))
        self.fault([C, LIST], ("house", "c", "list", ("list",)), errors.NoSuch)
        self.fault([C, LIST], ("house", "c", "list", ("whole",)), errors.NoSuch)
        self.taken([C, PAIR, ("house", "c", "pair", (None, None))])

    def test_the_deed_of_a_once(self):
        self.no_such([C], ONCE, D)
        self.no_such([], ONCE, D, C)
        self.fault([C, ("def", "d", ("x",), X)], ONCE, errors.NoSuch)
        for name in ["plus", "minus", "under"]:
            self.fault([C], ("once", name, ("x", "y"), X), errors.NoSuch)

    def test_the_house_of_a_does(self):
        self.no_such([C, D], DOES, HOUSE)
        self.no_such([C, D, ONCE, ("house", "c", "truth", ())], DOES, HOUSE)
        self.no_such([C, D, cls("b"), ("house", "b", "whole", ())], DOES, HOUSE)
        self.fault([C, D, ONCE, HOUSE], ("does", "c", "list", "d", ("x",), X), errors.NoSuch)
        self.fault([C, D, ONCE, HOUSE], ("does", "b", "whole", "d", ("x",), X), errors.NoSuch)

    def test_the_deed_of_a_does(self):
        self.no_such([C, HOUSE], DOES, D)
        self.fault([C, HOUSE, ("def", "d", ("x",), X)], DOES, errors.NoSuch)
        for name in ["plus", "minus", "under"]:
            self.fault([C, HOUSE], ("does", "c", "whole", name, ("x", "y"), X), errors.NoSuch)

    def test_a_does_with_a_deed_of_another_class(self):
        other = ("deed", "d", "b", (0,), 0)
        self.fault([C, HOUSE, cls("b"), other], DOES, errors.NoSuch)
        # Neither the deed of an elder nor that of a class beneath is one of the class's own.
        below = [cls("b"), cls("c", "b"), other, ONCE, HOUSE, ("house", "b", "whole", ())]
        self.fault(below, DOES, errors.NoSuch)
        self.fault([C, cls("b", "c"), other, ONCE, HOUSE, ("house", "b", "whole", ())], DOES, errors.NoSuch)

    def test_bodies_are_not_looked_at(self):
        self.taken([("def", "f", ("x",), ("call", "nothing", (Y, ("form", "Nothing", ())))), ("ask", Y)])


class Miscount(Looks):
    KINDS = [("kind", "none", 0, (("None", ()),)), LIST, PAIR, ("kind", "three", 3, (("Three", (0, 1, 2)),))]

    def made(self):
        """Made kinds by these names, with how many parts each, and whether that is right."""
        for name, many in [("none", 0), ("list", 1), ("pair", 2), ("three", 3), ("whole", 0), ("truth", 0)]:
            for told in range(4):
                yield (name,) + (0,) * told, told == many

    def test_a_made_kind_in_a_kind_row(self):
        for kind, right in self.made():
            for parts in [(kind,), (0, WHOLE, kind), (("list", kind),), (("pair", 0, ("list", kind)),)]:
                for forms in [(("Box", parts),), (("A", ()), ("B", (0,)), ("Box", parts))]:
                    row = ("kind", "box", 1, forms)
                    if right:
                        self.taken(self.KINDS + [row])
                    else:
                        self.fault(self.KINDS, row, errors.Miscount)

    def test_a_made_kind_of_the_row_itself(self):
        self.fault([], ("kind", "box", 1, (("Box", (("box",),)),)), errors.Miscount)
        self.fault([], ("kind", "box", 1, (("Box", (("box", 0, 0),)),)), errors.Miscount)
        self.fault([], ("kind", "box", 0, (("Box", (("box", WHOLE),)),)), errors.Miscount)

    def test_a_made_kind_in_a_deed_row(self):
        for kind, right in self.made():
            for params, result in [
                ((kind,), 0), ((0, WHOLE, kind), WHOLE), ((0,), kind), ((0,), ("list", kind)), ((("list", kind),), 0),
            ]:
                row = ("deed", "d", "c", params, result)
                if right:
                    self.taken(self.KINDS + [C, row])
                else:
                    self.fault(self.KINDS + [C], row, errors.Miscount)

    def test_the_needs_of_a_house(self):
        for name, many in [("none", 0), ("list", 1), ("pair", 2), ("three", 3), ("whole", 0), ("truth", 0)]:
            for told in range(4):
                for need in [None, "c"]:
                    row = ("house", "c", name, (need,) * told)
                    if told == many:
                        self.taken(self.KINDS + [C, row])
                    else:
                        self.fault(self.KINDS + [C], row, errors.Miscount)

    def test_the_names_of_a_once_and_of_a_does(self):
        for many in range(4):
            deed = ("deed", "d", "c", (0,) * many, 0)
            for told in range(4):
                names = ("x", "y", "z")[:told]
                once = ("once", "d", names, ONE)
                does = ("does", "c", "whole", "d", names, ONE)
                if told == many:
                    self.taken([C, deed, once])
                    self.taken([C, deed, HOUSE, does])
                    self.taken([C, deed, HOUSE, once, does])
                else:
                    self.fault([C, deed], once, errors.Miscount)
                    self.refused([C, deed, HOUSE, does], errors.Miscount, 3)
                    self.fault([C, deed, HOUSE, ("once", "d", ("x", "y", "z")[:many], ONE)], does, errors.Miscount)

    def test_names_of_a_def_are_not_counted(self):
        for told in range(4):
            self.taken([("def", "f", ("x", "y", "z")[:told], ("call", "f", (ONE,)))])


class Ring(Looks):
    def rings(self, rows, first):
        self.refused(rows, errors.Ring, first)
        self.refused([LIST, ("ask", ONE)] + rows, errors.Ring, 2 + first)

    def test_of_one(self):
        self.rings([cls("a", "a")], 0)
        self.rings([cls("b"), cls("a", "b", "a")], 1)
        self.rings([cls("b"), cls("c"), cls("a", "b", "c", "a")], 2)

    def test_of_two(self):
        self.rings([cls("a", "b"), cls("b", "a")], 0)
        self.rings([cls("c"), cls("b", "c", "a"), cls("a", "b")], 1)

    def test_of_three(self):
        self.rings([cls("a", "b"), cls("b", "c"), cls("c", "a")], 0)
        self.rings([cls("a", "c"), cls("b", "a"), cls("c", "b")], 0)
        self.rings([cls("d"), cls("a", "d", "b"), cls("b", "d", "c"), cls("c", "d", "a")], 1)

    def test_of_many(self):
        names = "abcdefghijklmnopqrstuvwxyz"
        rows = [cls(name, names[place + 1]) for place, name in enumerate(names[:-1])]
        self.taken(rows + [cls("z")])
        self.rings(rows + [cls("z", "a")], 0)
        self.rings(rows + [cls("z", "m")], 12)
        self.rings(rows + [cls("z", "z")], 25)

    def test_a_class_under_a_ring(self):
        self.rings([cls("under", "a"), cls("a", "b"), cls("b", "a")], 1)
        self.rings([cls("far", "under"), cls("under", "a"), cls("a", "a")], 2)
        self.rings([cls("far", "under"), cls("under", "a"), cls("b", "c"), cls("c", "b"), cls("a", "b")], 2)

    def test_a_class_over_a_ring(self):
        self.rings([cls("over"), cls("a", "over", "b"), cls("b", "a", "over")], 1)

    def test_two_rings(self):
        self.rings([cls("o"), cls("c", "d"), cls("a", "b"), cls("b", "a"), cls("d", "c")], 1)

    def test_two_ways_are_no_ring(self):
        self.taken([cls("top", "left", "right"), cls("left", "end"), cls("right", "end", "left"), cls("end")])
        self.taken([cls("a"), cls("b", "a", "a"), cls("c", "b", "a", "b")])


class Open(Looks):
    def test_kinds_in_which_0_does_not_stand(self):
        for params, result in [
            ((), WHOLE), ((WHOLE,), TRUTH), ((WHOLE, WHOLE, TRUTH), WHOLE), ((("list", WHOLE),), ("list", TRUTH)),
        ]:
            self.fault([C, LIST], ("deed", "d", "c", params, result), errors.Open)

    def test_kinds_in_which_it_stands(self):
        for params, result in [
            ((), 0), ((0,), WHOLE), ((WHOLE, TRUTH, 0), WHOLE), ((), ("list", ("list", 0))), ((0, 0), 0),
            ((WHOLE, ("list", ("pair", WHOLE, 0))), TRUTH), ((WHOLE,), 0),
        ]:
            self.taken([C, LIST, PAIR, ("deed", "d", "c", params, result)])

    def test_kind_rows_and_defs_are_not_meant(self):
        self.taken([("kind", "box", 1, (("Box", (WHOLE,)),)), ("def", "f", (), ONE)])

    def test_the_first_such_row(self):
        self.refused([
            C, D, ("deed", "e", "c", (), WHOLE), ("deed", "f", "c", (), WHOLE),
        ], errors.Open, 2)


class Lacks(Looks):
    def test_neither_a_does_nor_a_once(self):
        self.fault([C, D], HOUSE, errors.Lacks)
        self.taken([C, D, HOUSE, ONCE])
        self.taken([C, D, HOUSE, DOES])
        self.taken([C, D, HOUSE, ONCE, DOES])
        self.taken([C, HOUSE])
        self.taken([C, D])

    def test_each_of_several_deeds(self):
        deeds = [("deed", name, "c", (), 0) for name in "def"]
        bodies = [("once", "d", (), ONE), ("does", "c", "whole", "e", (), ONE), ("once", "f", (), ONE)]
        self.taken([C] + deeds + [HOUSE] + bodies)
        for number in range(3):
            self.refused([C] + deeds + [HOUSE] + without_row(bodies, number), errors.Lacks, 4)

    def test_the_does_of_another_kind(self):
        rows = [C, D, ("house", "c", "truth", ()), ("does", "c", "truth", "d", ("x",), X)]
        self.fault(rows, HOUSE, errors.Lacks)
        self.taken(rows + [HOUSE, DOES])
        self.taken(rows + [HOUSE, ONCE])

    def test_the_does_of_another_class(self):
        house, does = ("house", "b", "whole", ()), ("does", "b", "whole", "e", ("x",), X)
        other = [cls("b"), ("deed", "e", "b", (0,), 0), house, does]
        self.fault([C, D] + other, HOUSE, errors.Lacks)
        self.taken([C, D] + other + [HOUSE, DOES])

    def test_the_once_of_another_deed(self):
        rows = [C, D, ("deed", "e", "c", (0,), 0), ("once", "e", ("x",), X)]
        self.fault(rows, HOUSE, errors.Lacks)
        self.taken(rows + [HOUSE, ONCE])

    def test_a_def_is_no_body(self):
        self.fault([C, D, ("def", "e", ("x",), X)], HOUSE, errors.Lacks)

    def test_deeds_of_elders_are_not_asked_for(self):
        rows = [C, cls("b", "c"), D, DOES, HOUSE, ("house", "b", "whole", ())]
        self.taken(rows)

    def test_the_first_such_house(self):
        truth = ("house", "c", "truth", ())
        self.refused([HOUSE, truth, C, D], errors.Lacks, 0)
        self.refused([HOUSE, truth, C, D, DOES], errors.Lacks, 1)
        self.refused([truth, HOUSE, C, D, DOES], errors.Lacks, 0)


class NoHouse(Looks):
    def test_an_elder_without_a_house(self):
        rows = [cls("b"), cls("c", "b")]
        self.fault(rows, HOUSE, errors.NoHouse)
        self.taken(rows + [HOUSE, ("house", "b", "whole", ())])
        self.taken([HOUSE, ("house", "b", "whole", ())] + rows)
        self.taken(rows + [("house", "b", "whole", ())])

    def test_an_elder_with_a_house_of_another_kind(self):
        self.fault([cls("b"), cls("c", "b"), ("house", "b", "truth", ())], HOUSE, errors.NoHouse)

    def test_each_of_three_elders(self):
        rows = [cls("a"), cls("b"), cls("d"), cls("c", "a", "b", "d")]
        houses = [("house", name, "whole", ()) for name in "abd"]
        self.taken(rows + [HOUSE] + houses)
        for number in range(3):
            self.refused(rows + [HOUSE] + without_row(houses, number), errors.NoHouse, 4)

    def test_far_elders(self):
        """The house of the near elder is the one that wants the far elder's."""
        rows = [cls("c", "b"), cls("b", "a"), cls("a"), HOUSE, ("house", "b", "whole", ())]
        self.refused(rows, errors.NoHouse, 4)
        self.taken(rows + [("house", "a", "whole", ())])
        self.refused(rows[:4] + [("house", "a", "whole", ())], errors.NoHouse, 3)

    # The need of the elder's house, that of the class's own, and whether the one follows from the other.
    NEEDS = [
        (None, None, True), (None, "low", True), ("low", "low", True), ("mid", "low", True), ("high", "low", True),
        ("top", "low", True), ("high", "mid", True), ("side", "low", True), ("top", "side", True),
        ("low", None, False), ("top", None, False), ("low", "mid", False), ("low", "high", False),
        ("low", "top", False), ("mid", "side", False), ("other", "low", False), ("low", "other", False),
        ("high", "side", False),
        ("side", "high", False), ("c", "low", False), ("b", "c", True), ("c", "b", False), ("c", "c", True),
    ]
    CLASSES = [
        cls("other"), cls("low", "mid", "side"), cls("mid", "high"), cls("side", "top"), cls("high", "top"), cls("top"),
        cls("b"), cls("c", "b"), LIST, PAIR, ("kind", "three", 3, (("Three", ()),)),
    ]

    def needs(self, kind, elders_needs, needs, good):
        elder, own = ("house", "b", kind, elders_needs), ("house", "c", kind, needs)
        for rows in [self.CLASSES + [elder, own], self.CLASSES + [own, elder], [own, elder] + self.CLASSES]:
            if good:
                self.taken(rows)
            else:
                self.refused(rows, errors.NoHouse, rows.index(own))

    def test_needs_that_follow_and_that_do_not(self):
        for need, own, good in self.NEEDS:
            self.needs("list", (need,), (own,), good)

    def test_needs_by_place(self):
        for need, own, good in self.NEEDS:
            for other in [None, "low", "top"]:
                self.needs("pair", (need, other), (own, other), good)
                self.needs("pair", (other, need), (other, own), good)
                self.needs("three", (None, other, need), ("low", other, own), good)
        self.needs("pair", ("low", None), (None, "low"), False)
        self.needs("pair", ("mid", "other"), ("other", "low"), False)

    def test_each_of_three_elders_needs(self):
        rows = [cls("a"), cls("b"), cls("d"), cls("c", "a", "b", "d"), LIST]
        for wrong in [None, 0, 1, 2]:
            houses = [("house", name, "list", ("a" if number == wrong else "d",)) for number, name in enumerate("abd")]
            program = rows + [("house", "c", "list", ("d",))] + houses
            if wrong is None:
                self.taken(program)
            else:
                self.refused(program, errors.NoHouse, 5)

    def test_the_first_such_house(self):
        rows = [cls("b"), cls("c", "b"), ("house", "c", "truth", ()), HOUSE]
        self.refused(rows, errors.NoHouse, 2)
        self.refused(rows + [("house", "b", "truth", ())], errors.NoHouse, 3)


# Rows that have a fault of one look alone, beside the rows of a full program.
FAULTS = [
    ("Twice", [("kind", "whole", 0, (("Other", ()),))]),
    ("NoSuch", [("once", "nothing", (), ONE)]),
    ("Miscount", [("kind", "box", 1, (("Box", (("list",),)),))]),
    ("Ring", [("class", "ring", ("ring",))]),
    ("Open", [("deed", "shut", "like", (), WHOLE), ("once", "shut", (), ONE)]),
    ("Lacks", [("house", "like", "truth", ())]),
    ("NoHouse", [("house", "order", "pair", (None, None)), ("does", "order", "pair", "below", ("x", "y"), X)]),
]


class Order(Looks):
    def test_each_fault_alone(self):
        for name, rows in FAULTS:
            self.refused(full() + rows, getattr(errors, name), len(full()))
            self.refused(rows + full(), getattr(errors, name), 0)

    def test_the_look_told_first_counts_wherever_its_row_stands(self):
        for place, (name, rows) in enumerate(FAULTS):
            for later, more in FAULTS[place + 1:]:
                self.refused(rows + full() + more, getattr(errors, name), 0)
                self.refused(more + full() + rows, getattr(errors, name), len(more) + len(full()))

    def test_all_faults_from_one_look_on(self):
        for place, (name, rows) in enumerate(FAULTS):
            behind = [row for later, more in FAULTS[place + 1:][::-1] for row in more]
            self.refused(behind + full() + rows, getattr(errors, name), len(behind) + len(full()))

    def test_no_program_goes_ahead_of_all(self):
        for name, rows in FAULTS:
            for wrong in [None, ("ask",), ("class", "C", ()), ("kind", "k", 4, (("F", ()),))]:
                self.refused(rows + full() + [wrong], errors.NoProgram, len(rows) + len(full()))
                self.refused([wrong] + rows + full(), errors.NoProgram, 0)

    def test_too_many_rows_go_ahead_of_all(self):
        for name, rows in FAULTS:
            with self.assertRaises(errors.NoProgram) as taken:
                Lore(rows + full() + [("ask", ONE)] * 40)
            self.assertIsNone(taken.exception.place)

    def test_one_row_with_several_faults(self):
        self.refused([("kind", "whole", 0, (("Other", (("nothing",), ("whole", WHOLE))),))], errors.Twice, 0)
        self.refused([("kind", "box", 0, (("Box", (("box", WHOLE), ("nothing",))),))], errors.NoSuch, 0)
        self.refused([cls("ring", "ring", "nothing")], errors.NoSuch, 0)
        self.refused([C, ("deed", "d", "c", (), ("whole", WHOLE))], errors.Miscount, 1)
        self.refused([cls("b"), cls("c", "b"), D, HOUSE], errors.Lacks, 3)

    def test_what_a_ring_leads_to(self):
        """A house of a class in a ring: the class rows are at fault, the houses are not looked at."""
        self.refused([HOUSE, cls("c", "b"), cls("b", "c"), ("house", "b", "whole", ())], errors.Ring, 1)


class AgainstAnotherWay(Looks):
    """Programs of few names, in which faults of all looks come up; held against looks written the long way."""

    def some_kind(self, random, opens):
        if opens and random.randrange(3):
            return random.randrange(opens)
        name = random.choice(["whole", "truth", "k", "k", "l", "l", "m"])
        many = {"k": 1, "l": 2}.get(name, 0)
        if random.randrange(30) == 0:
            many = random.randrange(4)
        return (name,) + tuple(self.some_kind(random, opens) if random.randrange(2) else WHOLE for part in range(many))

    def few(self, random, make):
        return tuple(make() for thing in range(random.choice([0, 0, 1, 1, 2, 3])))

    def kind_rows(self, random):
        rows = []
        for name, many in [("k", 1), ("l", 2)]:
            parts = self.few(random, lambda: self.some_kind(random, many))
            rows.append(("kind", name, many, ((name.upper(), parts), (name.upper() + "o", ()))))
        return rows

    def class_rows(self, random, names):
        rows = []
        for place, name in enumerate(names):
            pool = names[place + 1:] if random.randrange(12) else names
            elders = random.sample(pool, min(len(pool), random.choice([0, 1, 1, 2])))
            rows.append(("class", name, tuple(elders)))
        return rows

    def deed_rows(self, random, names):
        rows = []
        for deed in ["d", "e"]:
            params = self.few(random, lambda: self.some_kind(random, 1))
            result = 0 if random.randrange(10) else WHOLE
            rows.append(("deed", deed, random.choice(names), params, result))
        return rows

    def body_rows(self, random, houses, deeds):
        rows = []
        for deed in deeds:
            many = len(deed[3]) if random.randrange(25) else random.randrange(4)
            end = (("x", "y", "z")[:many], ONE)
            if random.randrange(2):
                rows.append(("once", deed[1]) + end)
            for house in houses:
                if house[1] == deed[2] and random.randrange(12):
                    rows.append(("does",) + house[1:3] + (deed[1],) + end)
        return rows

    def house_rows(self, random, classes):
        rows = []
        for kind, many in [("whole", 0), ("k", 1), ("l", 2)]:
            for row in classes:
                if random.randrange(5):
                    many_told = many if random.randrange(40) else random.randrange(4)
                    pool = [other[1] for other in classes] + [None] * 4
                    needs = tuple(random.choice(pool) for need in range(many_told))
                    rows.append(("house", row[1], kind, needs))
        return rows

    def some_program(self, random):
        names = random.sample(["a", "b", "c"], random.choice([2, 3, 3]))
        classes = self.class_rows(random, names)
        deeds = self.deed_rows(random, names)
        houses = self.house_rows(random, classes)
        rows = self.kind_rows(random) + classes + deeds + houses + self.body_rows(random, houses, deeds)
        if random.randrange(5) == 0:
            rows = without_row(rows, random.randrange(len(rows)))
        if random.randrange(8) == 0:
            rows.append(random.choice(rows))
        if random.randrange(2):
            rows.append(("def", random.choice("fghijd"), (), ONE))
        random.shuffle(rows)
        return rows[:40]

    def test_many_programs(self):
        random = chance(11)
        seen = {name: 0 for name in SlowLooks.ORDER + [None]}
        for step in range(12000):
            rows = self.some_program(random)
            fault = SlowLooks(rows).fault()
            if fault is None:
                seen[None] += 1
                self.taken(rows)
            else:
                seen[fault[0]] += 1
                self.refused(rows, getattr(errors, fault[0]), fault[1])
        # A test of the sample: each answer must be asked for often enough.
        self.assertGreater(min(seen.values()), 100, seen)

    def test_a_full_program_with_one_row_less_or_another_twice(self):
        for number in range(len(full())):
            for rows in [
                without_row(full(), number), full() + [full()[number]], [full()[number]] + full(),
                with_row(full(), number, full()[0]), with_row(full(), number, full()[-1]),
            ]:
                fault = SlowLooks(rows).fault()
                if fault is None:
                    self.taken(rows)
                else:
                    self.refused(rows, getattr(errors, fault[0]), fault[1])


if __name__ == "__main__":
    unittest.main()
