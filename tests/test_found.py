"""Points 2 and 17 to 20: kinddeeds.found."""

import unittest

from kinddeeds import errors
from kinddeeds.found import Found
from kinddeeds.lore import Lore
from programs import NO, ONE, TRUTH, WHOLE, X, Y, YES, call, case, form, full
from samples import chance
from slowly import SlowFound

Z = ("name", "z")
END = form("End")
UNIT = form("Unit")
LIST = ("kind", "list", 1, (("End", ()), ("Link", (0, ("list", 0)))))
PAIR = ("kind", "pair", 2, (("Pair", (0, 1)),))
UNITS = ("kind", "unit", 0, (("Unit", ()),))
TRIO = ("kind", "trio", 3, (("Trio", (0, 1, 2)),))


def listed(kind):
    return ("list", kind)


def paired(one, other):
    return ("pair", one, other)


def house(row, *trees):
    return ("house", row, trees)


def elder(cls, tree):
    return ("elder", cls, tree)


def given(number):
    return ("given", number)


class Founds(unittest.TestCase):
    def refused(self, rows, error, place):
        with self.assertRaises(errors.DeedsError) as taken:
            Found(rows)
        self.assertIs(type(taken.exception), error, taken.exception.place)
        self.assertEqual(taken.exception.place, place)

    def kinds(self, found, row, *kinds):
        """The kinds of the row's nodes, by their numbers."""
        self.assertEqual([found.kind_at(row, node + 1) for node in range(len(kinds))], list(kinds))

    def calls(self, found, row, nodes, calls):
        """calls: a dict from nodes to pairs of puts and trees; all other nodes tell None."""
        for node in range(1, nodes + 1):
            puts, trees = calls.get(node, (None, None))
            self.assertEqual(found.puts_at(row, node), puts, node)
            self.assertEqual(found.trees_at(row, node), trees, node)
            if puts is not None:
                self.assertIs(type(puts), tuple)
                self.assertIs(type(found.puts_at(row, node)), tuple)
                self.assertIs(type(found.trees_at(row, node)), tuple)


class Unfit(Founds):
    def unfit(self, expression, node, names=("x", "y")):
        rows = [LIST, PAIR, ("def", "f", names, expression)]
        self.refused(rows, errors.Unfit, (2, node))

    def test_args_of_functions(self):
        self.unfit(call("plus", NO, ONE), 2)
        self.unfit(call("plus", ONE, NO), 3)
        self.unfit(call("under", END, NO), 2)
        self.unfit(form("Pair", X, call("plus", call("under", ONE, ONE), ONE)), 4)

    def test_args_of_forms(self):
        self.unfit(form("Link", ONE, ONE), 3)
        self.unfit(form("Link", ONE, form("Link", NO, END)), 3)
        self.unfit(form("Link", X, X), 3)

    def test_arms(self):
        self.unfit(case(NO, ("Yes", (), ONE), ("No", (), NO)), 4)
        self.unfit(case(X, ("Yes", (), X), ("No", (), ONE)), 4)
        self.unfit(case(X, ("Link", ("y", "z"), Y), ("End", (), X)), 4)

    def test_what_is_looked_at(self):
        self.unfit(case(ONE, ("Yes", (), X), ("No", (), X)), 2)
        self.unfit(case(form("Pair", X, Y), ("End", (), X), ("Link", ("x", "y"), X)), 2)

    def test_a_name_of_two_kinds(self):
        self.unfit(form("Pair", call("plus", X, ONE), case(X, ("Yes", (), X), ("No", (), X))), 6)
        self.unfit(form("Pair", case(X, ("Yes", (), X), ("No", (), X)), call("plus", X, ONE)), 7)

    def test_a_kind_that_would_stand_in_itself(self):
        self.unfit(case(X, ("End", (), X), ("Link", ("y", "z"), Y)), 4)
        self.unfit(form("Link", X, form("Link", form("Link", X, END), END)), 3)

    def test_the_first_tuple_that_does_not_fit_by_its_place_in_the_list(self):
        """An arg's own pairs stand ahead of what it is for; the node's own pair behind those of its args."""
        self.unfit(form("Pair", call("plus", ONE, NO), call("plus", NO, ONE)), 4)
        self.unfit(call("plus", call("under", NO, ONE), ONE), 3)
        self.unfit(call("plus", case(NO, ("Yes", (), ONE), ("No", (), call("plus", ONE, END))), NO), 7)

    def test_the_result_of_a_deed(self):
        deed = ("deed", "d", "c", (0,), 0)
        rows = [("class", "c", ()), deed, ("once", "d", ("x",), ONE)]
        self.refused(rows, errors.Unfit, (2, 1))
        rows[2] = ("once", "d", ("x",), case(NO, ("No", (), X), ("Yes", (), ONE)))
        self.refused(rows, errors.Unfit, (2, 4))
        rows = [LIST, ("class", "c", ()), deed, ("house", "c", "list", (None,))]
        self.refused(rows + [("does", "c", "list", "d", ("x",), ONE)], errors.Unfit, (4, 1))
        self.refused(rows + [("does", "c", "list", "d", ("x",), form("Link", X, END))], errors.Unfit, (4, 1))
        self.refused(rows + [("does", "c", "list", "d", ("x",), form("Link", ONE, END))], errors.Unfit, (4, 1))
        self.refused(rows + [("does", "c", "list", "d", ("x",), form("Link", ONE, X))], errors.Unfit, (4, 3))
        Found(rows + [("does", "c", "list", "d", ("x",), X)])
        Found(rows + [("does", "c", "list", "d", ("x",), END)])

    def test_parts_of_a_house_are_no_other_kinds(self):
        rows = [PAIR, ("class", "c", ()), ("deed", "d", "c", (0, 0), 0), ("house", "c", "pair", (None, None))]
        swapped = case(X, ("Pair", ("x", "y"), form("Pair", Y, X)))
        self.refused(rows + [("does", "c", "pair", "d", ("x", "z"), swapped)], errors.Unfit, (4, 1))
        mixed = case(X, ("Pair", ("x", "y"), case(Z, ("Pair", ("z", "u"), form("Pair", Z, Y)))))
        found = Found(rows + [("does", "c", "pair", "d", ("x", "z"), mixed)])
        self.kinds(found, 4, *[paired(0, 1)] * 5 + [0, 1])

    def test_in_asks(self):
        self.refused([("ask", ONE), ("ask", call("plus", ONE, NO))], errors.Unfit, (1, 3))

    def test_calls_of_defs(self):
        rows = [("def", "f", ("x",), call("plus", X, ONE)), ("ask", call("f", NO))]
        self.refused(rows, errors.Unfit, (1, 2))
        rows = [("def", "f", ("x", "y"), case(NO, ("No", (), X), ("Yes", (), Y))), ("ask", call("f", NO, ONE))]
        self.refused(rows, errors.Unfit, (1, 3))


TENFOLD = [
    LIST, PAIR,
    ("def", "one", ("x",), form("Link", X, END)),
    ("def", "five", ("x",), call("one", call("one", call("one", call("one", call("one", X)))))),
    ("def", "ten", ("x",), call("five", call("five", X))),
    ("def", "two", ("x",), form("Pair", X, X)),
]


def repeated(*counts):
    """An expression of calls: so many of one name, then of the next, and a number in the end."""
    expression = ONE
    for name, many in reversed(counts):
        for step in range(many):
            expression = call(name, expression)
    return expression


class TooGreat(Founds):
    def test_sizes_of_60_and_61(self):
        found = Found(TENFOLD + [("ask", repeated(("ten", 5), ("five", 1), ("one", 4)))])
        kind = WHOLE
        for step in range(59):
            kind = listed(kind)
        self.assertEqual(found.kind_at(6, 1), kind)
        self.refused(TENFOLD + [("ask", repeated(("ten", 5), ("five", 1), ("one", 5)))], errors.TooGreat, (6, 1))
        self.refused(TENFOLD + [("ask", repeated(("ten", 6)))], errors.TooGreat, (6, 1))
        self.refused(TENFOLD + [("ask", repeated(("one", 2), ("ten", 6)))], errors.TooGreat, (6, 3))

    def test_a_kind_doubled_again_and_again(self):
        Found(TENFOLD + [("ask", repeated(("two", 4)))])
        self.refused(TENFOLD + [("ask", repeated(("two", 5)))], errors.TooGreat, (6, 1))
        self.refused(TENFOLD + [("ask", repeated(("two", 11)))], errors.TooGreat, (6, 7))

    def test_in_a_def(self):
        rows = TENFOLD + [("def", "more", ("x",), call("ten", call("ten", X)))]
        found = Found(rows)
        self.assertEqual(found.told("ten"), ((0,), told_listed(10), ()))
        self.assertEqual(found.told("more"), ((0,), told_listed(20), ()))
        rows += [("def", "most", ("x",), form("Pair", call("more", call("more", X)), call("ten", call("more", X))))]
        self.refused(rows, errors.TooGreat, (7, 1))

    def test_whichever_comes_first(self):
        great = repeated(("ten", 6))
        unfit = call("plus", NO, ONE)
        self.refused(TENFOLD + [("ask", form("Pair", great, unfit))], errors.TooGreat, (6, 2))
        self.refused(TENFOLD + [("ask", form("Pair", unfit, great))], errors.Unfit, (6, 3))
        self.refused(TENFOLD + [("ask", call("plus", great, NO))], errors.TooGreat, (6, 2))
        self.refused(TENFOLD + [("ask", call("plus", repeated(("ten", 5)), great))], errors.Unfit, (6, 2))

    def test_parts_put_into_a_great_param(self):
        """The deed's param at the house's kind has a size above 60."""
        least = ("trio", 0, 0, 0)
        deed = ("deed", "d", "c", (("trio", least, least, ("trio", least, least, least)),), WHOLE)
        rows = [TRIO, ("class", "c", ()), deed, ("house", "c", "trio", (None, None, None))]
        looked_at = case(X, ("Trio", ("x", "y", "z"), ONE))
        self.refused(rows + [("does", "c", "trio", "d", ("x",), looked_at)], errors.TooGreat, (4, 2))
        Found(rows + [("does", "c", "trio", "d", ("x",), ONE)])

    def test_against_another_way(self):
        random = chance(171)
        seen = {}
        for step in range(300):
            bodies = [some_great(random, [("name", "x"), ONE], 3) for body in range(2)]
            rows = TENFOLD + [("def", "f", ("x",), bodies[0]), ("def", "g", ("x",), bodies[1])]
            rows.append(("ask", some_great(random, [ONE, NO], 6)))
            fault = SlowFound(rows).fault
            seen[fault and fault[0]] = seen.get(fault and fault[0], 0) + 1
            if fault is None:
                Found(rows)
            else:
                self.refused(rows, getattr(errors, fault[0]), fault[1])
        for sort in [None, "TooGreat", "Unfit"]:
            self.assertGreater(seen[sort], 20, seen)


def told_listed(deep):
    kind = 0
    for step in range(deep):
        kind = listed(kind)
    return kind


def some_great(random, ends, depth):
    if depth == 0:
        return random.choice(ends)
    way = random.randrange(16)
    inner = some_great(random, ends, depth - 1)
    if way == 0:
        return form("Pair", inner, some_great(random, ends, depth - 1))
    if way == 1:
        return case(inner, ("Pair", ("y", "z"), random.choice([Y, Z, form("Pair", Y, Z)])))
    return call(random.choice(["one", "five", "ten", "two", "two"]), inner)


# Three classes, each an elder of the next; houses that need nothing, the same class, another one.
CLASSES = [
    LIST, PAIR, UNITS,
    ("class", "like", ()), ("class", "order", ("like",)), ("class", "more", ("order",)), ("class", "lone", ()),
    ("deed", "same", "like", (0, 0), TRUTH), ("deed", "below", "order", (0, 0), TRUTH),
    ("deed", "last", "more", (), 0), ("deed", "alone", "lone", (0,), 0),  # 10
    ("once", "same", ("x", "y"), YES), ("once", "below", ("x", "y"), NO), ("once", "last", (), call("last")),
    ("once", "alone", ("x",), X),
    ("house", "like", "whole", ()), ("house", "order", "whole", ()),  # 16
    ("house", "like", "list", ("like",)), ("house", "order", "list", ("order",)),
    ("house", "like", "pair", ("like", None)), ("house", "lone", "pair", ("lone", "order")),  # 20
    ("house", "lone", "truth", ()),
]
END_OF_CLASSES = len(CLASSES)


class NeedsOfAsks(Founds):
    def asked(self, expression):
        return Found(CLASSES + [("ask", expression)])

    def refused_ask(self, expression, error, node):
        self.refused(CLASSES + [("ask", expression)], error, (END_OF_CLASSES, node))

    def test_trees_of_closed_kinds(self):
        found = self.asked(call("same", ONE, ONE))
        self.kinds(found, END_OF_CLASSES, TRUTH, WHOLE, WHOLE)
        self.calls(found, END_OF_CLASSES, 3, {1: ((WHOLE,), (house(15),))})
        ones = form("Link", ONE, END)
        found = self.asked(call("below", form("Link", ones, END), END))
        self.kinds(found, END_OF_CLASSES, TRUTH, listed(listed(WHOLE)), listed(WHOLE), WHOLE, listed(WHOLE),
                   listed(listed(WHOLE)), listed(listed(WHOLE)))
        self.calls(found, END_OF_CLASSES, 7, {1: ((listed(listed(WHOLE)),), (house(18, house(18, house(16))),))})

    def test_an_open_kind_at_which_no_need_is(self):
        found = self.asked(END)
        self.kinds(found, END_OF_CLASSES, listed(WHOLE))
        found = self.asked(call("same", form("Pair", ONE, END), form("Pair", ONE, END)))
        kind = paired(WHOLE, listed(WHOLE))
        self.kinds(found, END_OF_CLASSES, TRUTH, kind, WHOLE, listed(WHOLE), kind, WHOLE, listed(WHOLE))
        self.calls(found, END_OF_CLASSES, 7, {1: ((kind,), (house(19, house(15), None),))})

    def test_a_need_at_an_open_kind(self):
        self.refused_ask(call("last"), errors.Open, 1)
        self.refused_ask(call("same", END, END), errors.Open, 1)
        pair = form("Pair", END, ONE)
        self.refused_ask(form("Pair", ONE, call("same", pair, pair)), errors.Open, 3)

    def test_no_house(self):
        self.refused_ask(call("same", UNIT, UNIT), errors.NoHouse, 1)
        self.refused_ask(call("same", form("Link", UNIT, END), END), errors.NoHouse, 1)
        self.refused_ask(call("below", form("Pair", ONE, ONE), form("Pair", ONE, ONE)), errors.NoHouse, 1)
        self.refused_ask(call("plus", ONE, call("last")), errors.NoHouse, 3)

    def test_the_first_from_the_left(self):
        """lone of a pair: lone of its first part, order of its second."""
        self.refused_ask(call("alone", form("Pair", END, END)), errors.NoHouse, 1)
        pair = form("Pair", form("Pair", YES, END), UNIT)
        self.refused_ask(call("alone", pair), errors.Open, 1)
        pair = form("Pair", form("Pair", YES, UNIT), END)
        self.refused_ask(call("alone", pair), errors.NoHouse, 1)
        pair = form("Pair", YES, END)
        self.refused_ask(call("alone", pair), errors.Open, 1)
        pair = form("Pair", YES, form("Link", ONE, END))
        found = self.asked(call("alone", pair))
        self.assertEqual(found.trees_at(END_OF_CLASSES, 1), (house(20, house(21), house(18, house(16))),))

    def test_a_house_that_is_not_there_ahead_of_what_lies_beneath_it(self):
        self.refused_ask(call("alone", form("Link", END, END)), errors.NoHouse, 1)
        self.refused_ask(call("alone", form("Pair", form("Link", END, END), END)), errors.NoHouse, 1)

    def test_by_nodes(self):
        bad = call("same", UNIT, UNIT)
        loose = call("same", END, END)
        self.refused_ask(form("Pair", bad, loose), errors.NoHouse, 2)
        self.refused_ask(form("Pair", loose, bad), errors.Open, 2)
        self.refused_ask(call("same", call("alone", ONE), bad), errors.Unfit, 4)
        self.refused_ask(call("alone", call("alone", ONE)), errors.NoHouse, 1)

    def test_a_node_ahead_of_its_parts(self):
        expression = call("alone", form("Pair", call("same", UNIT, UNIT), END))
        self.refused_ask(expression, errors.Open, 1)

    def test_calls_of_defs(self):
        rows = CLASSES + [("def", "f", ("x", "y"), form("Pair", call("same", X, X), call("below", Y, Y)))]
        found = Found(rows + [("ask", call("f", form("Pair", ONE, UNIT), form("Link", ONE, END)))])
        self.assertEqual(found.told("f"), ((0, 1), paired(TRUTH, TRUTH), (("like", 0), ("order", 1))))
        row = END_OF_CLASSES + 1
        self.calls(found, row, 7, {1: (
            (paired(WHOLE, ("unit",)), listed(WHOLE)), (house(19, house(15), None), house(18, house(16))))})
        self.refused(rows + [("ask", call("f", UNIT, END))], errors.NoHouse, (row, 1))
        self.refused(rows + [("ask", call("f", END, UNIT))], errors.Open, (row, 1))
        self.refused(rows + [("ask", call("f", ONE, UNIT))], errors.NoHouse, (row, 1))

    def test_calls_that_need_nothing(self):
        rows = [("def", "f", (), ONE), ("def", "g", ("x",), X), ("ask", call("plus", call("f"), call("g", ONE)))]
        found = Found(rows)
        self.calls(found, 2, 4, {2: ((), ()), 3: ((WHOLE,), ())})


class NeedsOfOnceRows(Founds):
    def once(self, expression, names=("x", "y"), deed="below"):
        rows = list(CLASSES)
        place = [row[1] for row in rows].index(deed, 11)
        rows[place] = ("once", deed, names, expression)
        return rows, place

    def test_the_given_one(self):
        rows, place = self.once(call("below", X, Y))
        found = Found(rows)
        self.kinds(found, place, TRUTH, 0, 0)
        self.calls(found, place, 3, {1: ((0,), (given(0),))})

    def test_elders_of_the_given_one(self):
        rows, place = self.once(call("same", X, Y))
        self.calls(Found(rows), place, 3, {1: ((0,), (elder("like", given(0)),))})
        rows, place = self.once(case(call("same", call("last"), call("last")), ("No", (), call("last")),
                                     ("Yes", (), call("last"))), (), "last")
        self.refused(rows, errors.Open, (place, 2))

    def test_houses_over_the_given_one(self):
        rows, place = self.once(call("below", form("Link", X, END), form("Link", Y, END)))
        found = Found(rows)
        self.kinds(found, place, TRUTH, listed(0), 0, listed(0), listed(0), 0, listed(0))
        self.calls(found, place, 7, {1: ((listed(0),), (house(18, given(0)),))})
        rows, place = self.once(call("same", form("Pair", form("Link", X, END), END), form("Pair", END, END)))
        self.calls(Found(rows), place, 9, {
            1: ((paired(listed(0), listed(WHOLE)),), (house(19, house(17, elder("like", given(0))), None),))})

    def test_no_house(self):
        rows, place = self.once(call("same", call("alone", X), Y))
        self.refused(rows, errors.NoHouse, (place, 2))
        rows, place = self.once(call("below", X, Y), deed="same")
        self.refused(rows, errors.NoHouse, (place, 1))
        rows, place = self.once(call("same", UNIT, UNIT))
        self.refused(rows, errors.NoHouse, (place, 1))
        rows, place = self.once(call("below", form("Pair", X, Y), form("Pair", X, Y)))
        self.refused(rows, errors.NoHouse, (place, 1))

    def test_open(self):
        rows, place = self.once(call("same", END, END))
        self.refused(rows, errors.Open, (place, 1))
        rows, place = self.once(call("same", call("last"), call("last")))
        self.refused(rows, errors.Open, (place, 1))

    def test_the_first_from_the_left(self):
        """lone of a pair needs lone of its first part, order of its second: in a once row of order."""
        rows, place = self.once(case(call("alone", form("Pair", X, END)), ("Pair", ("x", "y"), YES)))
        self.refused(rows, errors.NoHouse, (place, 2))
        rows, place = self.once(case(call("alone", form("Pair", YES, END)), ("Pair", ("x", "y"), YES)))
        self.refused(rows, errors.Open, (place, 2))
        rows, place = self.once(case(call("alone", form("Pair", YES, X)), ("Pair", ("x", "y"), YES)))
        self.assertEqual(Found(rows).trees_at(place, 2), (house(20, house(21), given(0)),))

    def test_kinds_at_which_no_need_is(self):
        rows, place = self.once(case(END, ("End", (), YES), ("Link", ("x", "y"), NO)))
        self.kinds(Found(rows), place, TRUTH, listed(WHOLE), TRUTH, TRUTH)

    def test_closed_kinds(self):
        rows, place = self.once(call("below", form("Link", ONE, END), END))
        self.calls(Found(rows), place, 5, {1: ((listed(WHOLE),), (house(18, house(16)),))})


class NeedsOfDoesRows(Founds):
    ROWS = [
        TRIO, LIST, UNITS, ("class", "like", ()), ("class", "order", ("like",)), ("class", "lone", ()),
        ("deed", "same", "like", (0, 0), TRUTH), ("deed", "below", "order", (0, 0), TRUTH),
        ("deed", "alone", "lone", (0,), 0),
        ("house", "like", "trio", (None, None, "like")), ("house", "order", "trio", ("order", None, "order")),
        ("house", "like", "list", ("like",)),
        ("does", "like", "trio", "same", ("x", "y"), NO), ("does", "order", "trio", "below", ("x", "y"), NO),
        ("does", "like", "list", "same", ("x", "y"), NO),
    ]
    ORDER = 13
    LIKE = 12

    def of_parts(self, row, inner):
        """In the does row, with the names a, b, c of x's parts by place."""
        rows = list(self.ROWS)
        body = case(X, ("Trio", ("a", "b", "c"), inner))
        rows[row] = rows[row][:-1] + (body,)
        return rows

    def inner(self, deed, part, other=None):
        return call(deed, ("name", part), ("name", other or part))

    def test_given_ones_by_part(self):
        found = Found(self.of_parts(self.ORDER, self.inner("below", "a")))
        self.kinds(found, self.ORDER, TRUTH, ("trio", 0, 1, 2), TRUTH, 0, 0)
        self.calls(found, self.ORDER, 5, {3: ((0,), (given(0),))})
        found = Found(self.of_parts(self.ORDER, self.inner("below", "c")))
        self.calls(found, self.ORDER, 5, {3: ((2,), (given(2),))})
        found = Found(self.of_parts(self.ORDER, self.inner("same", "c")))
        self.calls(found, self.ORDER, 5, {3: ((2,), (elder("like", given(2)),))})
        found = Found(self.of_parts(self.LIKE, self.inner("same", "c")))
        self.calls(found, self.LIKE, 5, {3: ((2,), (given(2),))})

    def test_parts_of_which_nothing_is_needed(self):
        for row, deed, part in [(self.ORDER, "below", "b"), (self.ORDER, "same", "b"), (self.LIKE, "same", "a"),
                                (self.LIKE, "same", "b"), (self.LIKE, "below", "c"), (self.LIKE, "below", "a")]:
            self.refused(self.of_parts(row, self.inner(deed, part)), errors.NoHouse, (row, 3))
        self.refused(self.of_parts(self.ORDER, call("same", call("alone", ("name", "a")), ("name", "a"))),
                     errors.NoHouse, (self.ORDER, 4))

    def test_the_house_itself(self):
        """A need at the kind at hand goes by its house, with the given ones at its parts."""
        rows = list(self.ROWS)
        rows[self.ORDER] = rows[self.ORDER][:-1] + (call("below", Y, X),)
        self.calls(Found(rows), self.ORDER, 3, {1: ((("trio", 0, 1, 2),), (house(10, given(0), None, given(2)),))})
        rows[self.ORDER] = rows[self.ORDER][:-1] + (call("same", Y, X),)
        self.calls(Found(rows), self.ORDER, 3, {
            1: ((("trio", 0, 1, 2),), (house(9, None, None, elder("like", given(2))),))})
        rows = list(self.ROWS)
        rows[self.LIKE] = rows[self.LIKE][:-1] + (call("below", Y, X),)
        self.refused(rows, errors.NoHouse, (self.LIKE, 1))

    def test_greater_kinds(self):
        link = form("Link", X, END)
        rows = list(self.ROWS)
        rows[self.LIKE] = rows[self.LIKE][:-1] + (call("same", link, link),)
        kind = listed(("trio", 0, 1, 2))
        self.calls(Found(rows), self.LIKE, 7, {1: ((kind,), (house(11, house(9, None, None, given(2))),))})

    def test_open(self):
        rows = list(self.ROWS)
        rows[self.LIKE] = rows[self.LIKE][:-1] + (call("same", END, END),)
        self.refused(rows, errors.Open, (self.LIKE, 1))

    def test_other_kinds_are_told_as_whole(self):
        rows = list(self.ROWS)
        rows[self.LIKE] = rows[self.LIKE][:-1] + (case(END, ("End", (), YES), ("Link", ("a", "b"), NO)),)
        self.kinds(Found(rows), self.LIKE, TRUTH, listed(WHOLE), TRUTH, TRUTH)

    def test_calls_of_defs(self):
        rows = self.of_parts(self.ORDER, call("f", ("name", "a"), ("name", "c")))
        body = case(call("same", Y, Y), ("No", (), call("below", X, X)), ("Yes", (), NO))
        rows.append(("def", "f", ("x", "y"), body))
        found = Found(rows)
        self.assertEqual(found.told("f"), ((0, 1), TRUTH, (("order", 0), ("like", 1))))
        self.calls(found, self.ORDER, 5, {3: ((0, 2), (given(0), elder("like", given(2))))})


class ToldOfDefs(Founds):
    def told(self, names, expression, told, rows=CLASSES):
        found = Found(rows + [("def", "f", names, expression)])
        self.assertEqual(found.told("f"), told)
        self.assertIs(type(found.told("f")[0]), tuple)
        self.assertIs(type(found.told("f")[2]), tuple)
        return found

    def refused_def(self, names, expression, error, node, rows=CLASSES):
        self.refused(rows + [("def", "f", names, expression)], error, (len(rows), node))

    def test_without_open_kinds(self):
        self.told((), ONE, ((), WHOLE, ()))
        self.told(("x",), call("plus", X, ONE), ((WHOLE,), WHOLE, ()))
        self.told(("x", "y"), call("under", Y, X), ((WHOLE, WHOLE), TRUTH, ()))

    def test_open_kinds_as_they_first_stand(self):
        self.told(("x",), X, ((0,), 0, ()))
        self.told(("x", "y", "z"), Y, ((0, 1, 2), 1, ()))
        self.told(("x", "y"), form("Pair", Y, form("Pair", END, X)), ((0, 1), paired(1, paired(listed(2), 0)), ()))
        self.told((), form("Pair", END, form("Pair", END, END)),
                  ((), paired(listed(0), paired(listed(1), listed(2))), ()))
        self.told(("x", "y"), case(Y, ("Pair", ("z", "u"), form("Pair", ("name", "u"), X))),
                  ((0, paired(1, 2)), paired(2, 0), ()))
        self.told(("x", "y"), case(X, ("End", (), Y), ("Link", ("x", "z"), X)), ((listed(0), 0), 0, ()))

    def test_kinds_that_are_not_told_are_whole(self):
        found = self.told(("x",), case(END, ("End", (), X), ("Link", ("y", "z"), X)), ((0,), 0, ()))
        self.kinds(found, END_OF_CLASSES, 0, listed(WHOLE), 0, 0)

    def test_a_need(self):
        found = self.told(("x",), call("same", X, X), ((0,), TRUTH, (("like", 0),)))
        self.kinds(found, END_OF_CLASSES, TRUTH, 0, 0)
        self.calls(found, END_OF_CLASSES, 3, {1: ((0,), (given(0),))})

    def test_a_need_of_the_result(self):
        found = self.told((), call("last"), ((), 0, (("more", 0),)))
        self.calls(found, END_OF_CLASSES, 1, {1: ((0,), (given(0),))})
        self.told(("x",), form("Pair", X, form("Link", call("last"), END)),
                  ((0,), paired(0, listed(1)), (("more", 1),)))

    def test_each_need_once(self):
        expression = case(call("same", X, X), ("No", (), call("same", X, X)), ("Yes", (), call("same", X, X)))
        found = self.told(("x",), expression, ((0,), TRUTH, (("like", 0),)))
        self.calls(found, END_OF_CLASSES, 10, {node: ((0,), (given(0),)) for node in [2, 5, 8]})

    def test_needs_that_another_one_brings_with_it(self):
        both = form("Pair", call("same", X, X), call("below", X, X))
        found = self.told(("x",), both, ((0,), paired(TRUTH, TRUTH), (("order", 0),)))
        self.calls(found, END_OF_CLASSES, 7, {2: ((0,), (elder("like", given(0)),)), 5: ((0,), (given(0),))})
        far = form("Pair", call("same", X, call("last")), call("alone", X))
        found = self.told(("x",), far, ((0,), paired(TRUTH, 0), (("more", 0), ("lone", 0))))
        self.calls(found, END_OF_CLASSES, 6, {
            2: ((0,), (elder("like", elder("order", given(0))),)), 4: ((0,), (given(0),)), 5: ((0,), (given(1),))})

    def test_at_other_open_kinds_none_is_brought(self):
        both = form("Pair", call("same", X, X), call("below", Y, Y))
        self.told(("x", "y"), both, ((0, 1), paired(TRUTH, TRUTH), (("like", 0), ("order", 1))))
        self.told(("y", "x"), both, ((0, 1), paired(TRUTH, TRUTH), (("order", 0), ("like", 1))))

    def test_sorted_by_open_kinds_then_by_the_rows_of_classes(self):
        parts = [call("alone", Y), call("below", X, X), call("alone", X)]
        for one, two, three in [(0, 1, 2), (2, 1, 0), (1, 2, 0), (1, 0, 2)]:
            expression = form("Pair", parts[one], form("Pair", parts[two], parts[three]))
            found = Found(CLASSES + [("def", "f", ("x", "y"), expression)])
            self.assertEqual(found.told("f")[2], (("order", 0), ("lone", 0), ("lone", 1)))

    def test_by_the_rows_and_not_by_the_names_of_classes(self):
        for first, second in [("a", "b"), ("b", "a")]:
            rows = [("class", first, ()), ("class", second, ()), ("deed", "d", "a", (0,), WHOLE),
                    ("deed", "e", "b", (0,), WHOLE), ("def", "f", ("x",), call("plus", call("d", X), call("e", X)))]
            self.assertEqual(Found(rows).told("f")[2], ((first, 0), (second, 0)))

    def test_needs_led_by_houses(self):
        link = form("Link", X, END)
        found = self.told(("x",), call("same", link, link), ((0,), TRUTH, (("like", 0),)))
        self.calls(found, END_OF_CLASSES, 7, {1: ((listed(0),), (house(17, given(0)),))})
        pair = form("Pair", X, Y)
        found = self.told(("x", "y"), call("alone", pair), ((0, 1), paired(0, 1), (("lone", 0), ("order", 1))))
        self.calls(found, END_OF_CLASSES, 4, {1: ((paired(0, 1),), (house(20, given(0), given(1)),))})
        found = self.told(("x", "y"), call("same", pair, pair), ((0, 1), TRUTH, (("like", 0),)))
        self.calls(found, END_OF_CLASSES, 7, {1: ((paired(0, 1),), (house(19, given(0), None),))})
        found = self.told(("x",), call("same", form("Link", ONE, END), END), ((0,), TRUTH, ()))
        self.calls(found, END_OF_CLASSES, 5, {1: ((listed(WHOLE),), (house(17, house(15)),))})

    def test_needs_of_defs_that_are_called(self):
        rows = CLASSES + [("def", "g", ("y", "x"), call("alone", form("Pair", X, Y)))]
        found = self.told(("x",), call("g", X, X), ((0,), paired(0, 0), (("order", 0), ("lone", 0))), rows)
        self.assertEqual(found.told("g"), ((0, 1), paired(1, 0), (("order", 0), ("lone", 1))))
        self.calls(found, END_OF_CLASSES + 1, 3, {1: ((0, 0), (given(0), given(1)))})
        link = form("Link", Y, END)
        found = self.told(("x", "y"), form("Pair", call("g", link, X), call("same", X, X)), (
            (0, 1), paired(paired(0, listed(1)), TRUTH), (("like", 0), ("lone", 0), ("order", 1))), rows)
        self.calls(found, END_OF_CLASSES + 1, 9, {
            2: ((listed(1), 0), (house(18, given(2)), given(1))), 7: ((0,), (given(0),))})

    def test_no_house(self):
        self.refused_def(("x",), call("same", UNIT, UNIT), errors.NoHouse, 1)
        self.refused_def(("x",), form("Pair", X, call("alone", form("Link", X, END))), errors.NoHouse, 3)
        self.refused_def(("x",), call("alone", form("Pair", X, UNIT)), errors.NoHouse, 1)
        self.refused_def(("x",), call("same", call("alone", ONE), X), errors.NoHouse, 2)

    def test_open(self):
        self.refused_def(("x",), call("same", END, END), errors.Open, 1)
        self.refused_def((), call("same", call("last"), call("last")), errors.Open, 1)
        self.refused_def(("x",), case(call("last"), ("No", (), X), ("Yes", (), X)), errors.NoHouse, 2)
        self.refused_def(("x",), form("Pair", X, call("same", form("Pair", END, X), form("Pair", END, X))),
                         errors.Open, 3)

    def test_open_and_no_house_by_nodes_then_from_the_left(self):
        bad, loose = call("same", UNIT, UNIT), call("same", END, END)
        self.refused_def((), form("Pair", bad, loose), errors.NoHouse, 2)
        self.refused_def((), form("Pair", loose, bad), errors.Open, 2)
        inner = call("alone", form("Pair", call("alone", form("Pair", X, Y)), UNIT))
        self.refused_def(("x", "y"), inner, errors.NoHouse, 1)
        fits = [(form("Pair", END, UNIT), errors.NoHouse), (form("Pair", YES, END), errors.Open),
                (form("Pair", form("Pair", YES, END), UNIT), errors.Open),
                (form("Pair", X, form("Pair", END, END)), errors.NoHouse), (form("Pair", X, END), errors.Open)]
        for pair, error in fits:
            self.refused_def(("x",), case(call("alone", pair), ("Pair", ("y", "z"), X)), error, 2)

    def test_the_needs_of_one_call_in_their_order(self):
        rows = CLASSES + [("def", "g", ("x", "y"), form("Pair", call("same", X, X), call("same", Y, Y)))]
        for one, other, error in [(END, UNIT, errors.Open), (UNIT, END, errors.NoHouse), (ONE, END, errors.Open),
                                  (END, ONE, errors.Open), (ONE, UNIT, errors.NoHouse)]:
            self.refused_def((), call("g", one, other), error, 1, rows)

    def test_names_that_are_no_defs(self):
        found = Found(CLASSES + [("def", "f", ("x",), X)])
        for name in ["same", "plus", "under", "x", "like", "list", "nothing", "", "F"]:
            self.assertIsNone(found.told(name))
        self.assertIsNone(Found([]).told("f"))


class Told(Founds):
    def test_of_a_full_program(self):
        found = Found(full())
        self.assertEqual(found.told("biggest"), ((0, 0), 0, (("order", 0),)))
        self.kinds(found, 7, 0, TRUTH, 0, 0, 0, 0)
        self.calls(found, 7, 6, {2: ((0,), (given(0),))})
        self.kinds(found, 9, TRUTH, TRUTH, WHOLE, WHOLE, TRUTH, TRUTH)
        self.calls(found, 9, 6, {})
        self.kinds(found, 14, TRUTH)
        self.kinds(found, 19, 0, 0, 0)
        self.calls(found, 19, 3, {1: ((0,), (given(0),))})
        self.kinds(found, 20, WHOLE, WHOLE, WHOLE)
        self.calls(found, 20, 3, {1: ((WHOLE,), (house(10),))})
        kind = paired(WHOLE, listed(WHOLE))
        self.kinds(found, 21, TRUTH, kind, WHOLE, listed(WHOLE), kind, WHOLE, listed(WHOLE))
        self.calls(found, 21, 7, {1: ((kind,), (house(17, house(8), None),))})

    def test_own_functions_are_no_calls_of_these(self):
        for name in ["plus", "minus", "under"]:
            found = Found([("def", "f", ("x",), call(name, X, ONE)), ("ask", call(name, ONE, ONE))])
            self.calls(found, 0, 3, {})
            self.calls(found, 1, 3, {})

    def test_lore(self):
        found = Found(full())
        self.assertIsInstance(found.lore(), Lore)
        self.assertEqual(found.lore().rows(), full())
        self.assertEqual(Found([]).lore().rows(), [])

    def test_rows_in_another_order(self):
        """What is told of a row hangs on what the others tell, not on where they stand."""
        random = chance(20)
        first = Found(full())
        for step in range(50):
            rows = random.sample(full(), len(full()))
            found = Found(rows)
            self.assertEqual(found.told("biggest"), first.told("biggest"))
            for number, row in enumerate(full()):
                if row[0] in ("once", "does", "def", "ask"):
                    moved = rows.index(row)
                    for node in range(1, len(SlowFound(full()).bodies[number].nodes) + 1):
                        self.assertEqual(found.kind_at(moved, node), first.kind_at(number, node))
                        self.assertEqual(found.puts_at(moved, node), first.puts_at(number, node))


class NothingKept(Founds):
    def told(self, found):
        nodes = [(row, node) for row, body in SlowFound(full()).bodies.items() for node in body.nodes]
        return [found.told("biggest"), found.lore().rows()] + [
            (found.kind_at(row, node), found.puts_at(row, node), found.trees_at(row, node)) for row, node in nodes]

    def test_the_list_handed_in_stays_and_is_not_kept(self):
        rows = full()
        found = Found(rows)
        self.assertEqual(rows, full())
        before = self.told(found)
        rows.reverse()
        rows.append(None)
        self.assertEqual(self.told(found), before)
        rows.clear()
        self.assertEqual(self.told(found), before)

    def test_asking_changes_nothing(self):
        found = Found(full())
        before = self.told(found)
        found.lore().rows().clear()
        found.lore().deeds_of("order").clear()
        self.assertEqual(self.told(found), before)
        self.assertEqual(self.told(Found(full())), before)

    def test_a_refused_list_stays(self):
        rows = full() + [("ask", call("plus", ONE, NO))]
        kept = list(rows)
        with self.assertRaises(errors.Unfit):
            Found(rows)
        self.assertEqual(rows, kept)


if __name__ == "__main__":
    unittest.main()
