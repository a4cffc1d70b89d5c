"""Points 2, 7 and 8: kinddeeds.rows."""

import unittest

from kinddeeds.errors import NoProgram
from kinddeeds.rows import checked, nodes_of
from programs import ONE, TRUTH, WHOLE, X, Y, call, case, form, full, nested, wide, with_row
from samples import Odd, TextOfItsOwn, bushy, chain, chance, neither_name_nor_kind, ring_of_lists

GOOD_NAMES = ["a", "z", "ab", "whole", "abcdefgh", "zzzzzzzz"]
GOOD_FORM_NAMES = ["A", "Z", "Ab", "Yes", "Abcdefgh", "Zzzzzzzz"]
OTHER_SIGNS = [
    "a1", "a_", "a b", " a", "a ", "a\n", "a-b", "a'", "'0", "\xe4", "a\xdf", "\u0430", "a\uff41", "`", "{", "a@",
]


def bad_names():
    texts = ["", "abcdefghi", "a" * 9, "a" * 100000, "A", "Ab", "aB", "abcdefgH"] + OTHER_SIGNS
    return texts + [b"a", 0, 1, True, 1.5, ["a"], ("a",), {"a": 1}, Odd(), object()]


def bad_form_names():
    texts = ["", "Abcdefghi", "A" * 9, "A" + "a" * 100000, "a", "yes", "AB", "YeS", "@", "[", "A1", "A_", "A b", " A"]
    texts += ["A\n", "\xc4", "A\xe4", "\u0410", "\uff21", "A'", "A-", "1", "1a", "_a"]
    return texts + [b"A", 0, None, True, 1.5, ["A"], ("A",), {"A": 1}, Odd(), object()]


def deep_things():
    """Nested very deep, or with one tuple in them many times over."""
    plain = ()
    deep_case = ONE
    deep_arm = ONE
    for step in range(100000):
        plain = (plain,)
        deep_case = ("case", deep_case, (("F", (), ONE),))
        deep_arm = ("case", ONE, (("F", (), deep_arm),))
    twice = ()
    thrice = ONE
    cases = ONE
    kinds = 0
    for step in range(500):
        twice = (twice, twice)
        thrice = call("f", thrice, thrice, thrice)
        arm = ("F", (), cases)
        cases = ("case", cases, (arm, arm, arm, arm))
        kinds = ("a", kinds, kinds, kinds)
    return [plain, chain(100000), nested(100000), deep_case, deep_arm, twice, thrice, cases, kinds]


class Rows(unittest.TestCase):
    def taken(self, program):
        kept = list(program)
        told = checked(program)
        self.assertIs(type(told), list)
        self.assertIsNot(told, program)
        self.assertEqual(told, kept)
        self.assertEqual(program, kept)

    def refused(self, program, place):
        with self.assertRaises(NoProgram) as taken:
            checked(program)
        self.assertIs(type(taken.exception), NoProgram)
        self.assertEqual(taken.exception.place, place)

    def good_row(self, *rows):
        for row in rows:
            self.taken([row])

    def bad_row(self, *rows):
        for row in rows:
            self.refused([row], (0, 0))
            self.refused([("ask", ONE), row, ("ask", ONE)], (1, 0))


class Expressions(Rows):
    """What is an expression and what is none, by the rows that hold one."""

    def rows_with(self, expression):
        return [
            ("once", "d", ("x",), expression), ("does", "c", "k", "d", (), expression),
            ("def", "f", ("x", "y"), expression), ("ask", expression),
        ]

    def good(self, expression):
        self.good_row(*self.rows_with(expression))

    def bad(self, thing):
        self.bad_row(*self.rows_with(thing))
        self.bad_row(*[row for within in self.around(thing) for row in self.rows_with(within)])

    def around(self, thing):
        """Expressions, but for this thing in one place."""
        return [
            ("call", "f", (thing,)), ("call", "f", (ONE, X, thing)), ("form", "F", (thing, ONE)),
            case(thing, ("F", (), ONE)), case(ONE, ("F", (), thing)), case(ONE, ("F", (), ONE), ("G", ("x",), thing)),
            call("f", form("F", ONE, case(X, ("F", (), call("g", thing))))),
        ]

    def good_everywhere(self, thing):
        self.good(thing)
        for within in self.around(thing):
            self.good(within)

    def test_numbers_of_up_to_60_figures(self):
        for number in [0, 1, -1, 9, -10, 10 ** 59, -10 ** 59, 10 ** 60 - 1, 1 - 10 ** 60]:
            self.good_everywhere(("number", number))

    def test_numbers_of_61_figures_and_more(self):
        for number in [10 ** 60, -10 ** 60, 10 ** 60 + 1, 10 ** 61 - 1, -10 ** 61, 10 ** 6000, -10 ** 6000]:
            self.bad(("number", number))

    def test_what_is_no_number(self):
        for thing in [True, False, None, 1.0, 0.5, 1j, "1", "", b"1", (1,), [1], ("number", 1), float("nan"), Odd()]:
            self.bad(("number", thing))

    def test_names(self):
        for name in GOOD_NAMES:
            self.good_everywhere(("name", name))
            self.good_everywhere(call(name, ONE))
        for name in bad_names() + [None]:
            self.bad(("name", name))
            self.bad(("call", name, ()))
            self.bad(("call", name, (ONE,)))

    def test_names_of_forms(self):
        for name in GOOD_FORM_NAMES:
            self.good_everywhere(form(name, X))
            self.good_everywhere(case(X, (name, ("x",), ONE)))
        for name in bad_form_names():
            self.bad(("form", name, ()))
            self.bad(("form", name, (ONE, X)))
            self.bad(case(ONE, (name, (), ONE)))
            self.bad(case(ONE, ("F", (), ONE), (name, (), ONE)))

    def test_each_sign_in_names(self):
        for code in list(range(0x180)) + [0x430, 0xff21, 0xff41, 0x1d41a]:
            sign = chr(code)
            small = "a" <= sign <= "z"
            great = "A" <= sign <= "Z"
            for expression, good in [
                (("name", sign), small), (("name", "a" + sign), small), (("form", sign, ()), great),
                (("form", "A" + sign, ()), small), (("form", sign + "a", ()), great),
            ]:
                if good:
                    self.good_row(("ask", expression))
                else:
                    self.bad_row(("ask", expression))

    def test_none_to_three_args(self):
        for many in range(4):
            self.good_everywhere(("call", "f", (ONE,) * many))
            self.good_everywhere(("form", "F", (X,) * many))
        for many in [4, 5, 39, 40, 1000]:
            self.bad(("call", "f", (ONE,) * many))
            self.bad(("form", "F", (X,) * many))

    def test_args_that_are_no_tuple(self):
        for args in [[], [ONE], [ONE, X], None, "", "x", 0, 1, {}, set(), ONE, X, iter([ONE]), range(0), Odd()]:
            self.bad(("call", "f", args))
            self.bad(("form", "F", args))

    def test_one_to_four_arms(self):
        arms = (("F", (), ONE), ("G", ("x",), X), ("H", ("x", "y"), Y), ("I", ("x", "y", "z"), ONE), ("J", (), ONE))
        for many in [1, 2, 3, 4]:
            self.good_everywhere(("case", X, arms[:many]))
        self.bad(("case", X, ()))
        self.bad(("case", X, arms))
        self.bad(("case", X, arms + arms))
        self.good_everywhere(("case", X, (arms[0],) * 4))

    def test_arms_that_are_no_tuple(self):
        arm = ("F", (), ONE)
        for arms in [[arm], [], None, "F", 1, {}, {"F": ONE}, arm, iter([arm]), Odd(), ONE]:
            self.bad(("case", X, arms))

    def test_arms_that_are_no_tuple_of_three(self):
        for arm in [
            (), ("F",), ("F", ()), ("F", (), ONE, ONE), ["F", (), ONE], None, "F", 0, ONE, X, ((), "F", ONE),
            ("F", ONE, ()), (ONE,), Odd(), (Odd(), (), ONE), ("F", Odd(), ONE), ("F", (), Odd()),
        ]:
            self.bad(("case", X, (arm,)))
            self.bad(("case", X, (("F", (), ONE), arm)))
            self.bad(("case", X, (arm, ("F", (), ONE))))

    def test_names_of_an_arm(self):
        for names in [(), ("x",), ("x", "y"), ("x", "y", "z"), ("a", "abcdefgh", "b")]:
            self.good_everywhere(case(X, ("F", names, ONE)))
        for names in [
            ("x", "x"), ("x", "x", "y"), ("x", "y", "x"), ("y", "x", "x"), ("w", "x", "y", "z"), ("x",) * 4,
            ["x"], [], "x", "", None, 0, {}, {"x": 1}, Odd(), (None,), ("x", None), ("X",), ("",), ("x", "abcdefghi"),
            ("x", "y", 1), (Odd(),), (("x",),), (["x"],),
        ]:
            self.bad(case(X, ("F", names, ONE)))
            self.bad(case(X, ("F", (), ONE), ("F", names, ONE)))

    def test_one_name_in_two_arms(self):
        self.good_everywhere(case(X, ("F", ("x", "y"), ONE), ("G", ("y", "x"), case(X, ("F", ("x",), ONE)))))

    def test_longer_and_shorter(self):
        for expression in [ONE, X, form("F"), form("F", ONE), call("f"), call("f", X), case(X, ("F", (), ONE))]:
            for many in range(len(expression)):
                self.bad(expression[:many])
            for more in [None, 0, (), ONE, "x"]:
                self.bad(expression + (more,))
            self.bad(list(expression))

    def test_of_no_sort(self):
        texts = ["", "Number", "numbers", "number ", "deed", "ask", "x"]
        for sort in texts + [None, 0, 1, True, b"name", (), ("name",), Odd()]:
            for rest in [(1,), ("x",), ("F", ()), ("f", ()), (X, (("F", (), ONE),)), (), ((),)]:
                self.bad((sort,) + rest)

    def test_one_sort_with_the_rest_of_another(self):
        wholes = [ONE, X, form("F", ONE), call("f", ONE), case(X, ("F", (), ONE))]
        for one in wholes:
            for other in wholes:
                if one[0] != other[0]:
                    self.bad(one[:1] + other[1:])

    def test_things_of_all_kinds(self):
        for thing in neither_name_nor_kind() + [0, 1, "x", "", "number", ("a",), [ONE], [X], {"name": "x"}]:
            self.bad(thing)

    def test_40_nodes_and_41(self):
        for many in range(1, 41):
            self.good(wide(many))
        for many in [41, 42, 50, 100, 1000]:
            self.bad(wide(many))

    def test_nodes_of_all_sorts_count(self):
        for sample in [X, form("F"), call("f"), ONE]:
            thirty_six = call("f", wide(12), wide(12), wide(11))
            self.good(call("f", form("F", thirty_six), sample, sample))
            self.bad(call("f", form("F", thirty_six, sample), sample, sample))
            self.good(call("f", thirty_six, case(sample, ("F", (), sample))))
            self.bad(call("f", thirty_six, case(sample, ("F", (), sample), ("G", (), sample))))
        for last in [(), ("x", "y", "z")]:
            arms = (("F", last, wide(9)), ("G", (), wide(10)), ("H", (), wide(10)))
            self.good(("case", wide(10), arms))
            self.bad(("case", wide(11), arms))
            self.bad(("case", wide(10), (("F", last, wide(10)),) + arms[1:]))

    def test_one_tuple_counts_each_time_it_stands(self):
        twelve = wide(12)
        self.good(call("f", twelve, twelve, twelve))
        self.good(call("f", twelve, twelve, call("g", twelve, ONE, ONE)))
        self.bad(call("f", twelve, twelve, call("g", twelve, ONE, call("h", ONE))))
        self.bad(call("f", twelve, twelve, call("g", twelve, twelve)))

    def test_beneath_11_and_12(self):
        steps = [
            lambda inner: call("f", inner), lambda inner: form("F", ONE, inner), lambda inner: form("F", inner, ONE),
            lambda inner: case(inner, ("F", (), ONE)), lambda inner: case(ONE, ("F", (), inner)),
            lambda inner: case(ONE, ("F", (), ONE), ("G", (), inner)),
        ]
        for step in steps:
            for innermost in [ONE, X, form("F"), call("f")]:
                expression = innermost
                for above in range(1, 12):
                    expression = step(expression)
                    self.good_row(("ask", expression))
                self.bad_row(*self.rows_with(step(expression)))
                self.bad_row(*self.rows_with(step(step(expression))))

    def test_depth_is_not_that_of_another_branch(self):
        self.good(call("f", nested(10), nested(10), nested(10)))
        self.bad(call("f", nested(10), nested(11), nested(10)))
        self.bad(call("f", nested(11), ONE))
        self.bad(call("f", ONE, nested(11)))
        self.good(case(nested(10), ("F", (), nested(10)), ("G", (), nested(10))))
        self.bad(case(nested(11), ("F", (), ONE)))
        self.bad(case(ONE, ("F", (), ONE), ("G", (), nested(11))))

    def test_very_deep_and_many_times_over(self):
        for thing in deep_things():
            self.bad(thing)
            self.bad(("number", thing))
            self.bad(("name", thing))
            self.bad(("call", "f", thing))
            self.bad(("form", thing, ()))
            self.bad(("case", ONE, thing))
            self.bad(("case", ONE, (thing,)))
            self.bad(("case", ONE, (("F", thing, ONE),)))

    def random_expression(self, random, depth):
        sort = random.randrange(7)
        if depth == 0 or sort == 0:
            return random.choice([ONE, X, form("F"), call("f")])
        parts = [self.random_expression(random, depth - 1) for part in range(1 + random.randrange(3))]
        if sort < 3:
            return ("form", "F", tuple(parts))
        if sort < 5:
            return ("call", "f", tuple(parts))
        return ("case", parts[0], (("F", (), parts[-1]), ("G", ("x",), parts[0]))[:random.randrange(2) + 1])

    def measured(self, expression):
        """How many nodes it has, and beneath how many others its deepest stands."""
        if expression[0] in ("number", "name"):
            return (1, 0)
        if expression[0] == "case":
            parts = [expression[1]] + [arm[2] for arm in expression[2]]
        else:
            parts = expression[2]
        all_measured = [self.measured(part) for part in parts]
        return (1 + sum(pair[0] for pair in all_measured), max([0] + [1 + pair[1] for pair in all_measured]))

    def test_many_expressions(self):
        random = chance(7)
        seen = {True: 0, False: 0}
        for step in range(3000):
            expression = self.random_expression(random, 2 + random.randrange(12))
            nodes, above = self.measured(expression)
            good = nodes <= 40 and above <= 11
            seen[good] += 1
            if good:
                self.good(expression)
            else:
                self.bad_row(*self.rows_with(expression))
        self.assertGreater(min(seen.values()), 100, seen)


class Nodes(unittest.TestCase):
    def test_one_node(self):
        for expression in [ONE, X, form("F"), call("f")]:
            self.assertEqual(nodes_of(expression), [expression])

    def test_each_ahead_of_its_parts_from_the_left(self):
        one, two, three = form("A", X), call("b", Y, ONE), ("number", 3)
        for make in [lambda *args: form("F", *args), lambda *args: call("f", *args)]:
            whole = make(one, two, three)
            self.assertEqual(nodes_of(whole), [whole, one, X, two, Y, ONE, three])
            whole = make(two, one)
            self.assertEqual(nodes_of(whole), [whole, two, Y, ONE, one, X])

    def test_of_a_case_what_it_looks_at_and_then_the_arms(self):
        asked = call("g", ("name", "a"), ("name", "b"))
        inner = case(form("I", ("number", 7)), ("No", (), ("number", 8)), ("Yes", (), ("number", 9)))
        whole = case(asked, ("F", ("x",), call("h", X)), ("G", ("x", "y"), inner), ("H", (), ONE))
        self.assertEqual(nodes_of(whole), [
            whole, asked, ("name", "a"), ("name", "b"), call("h", X), X,
            inner, form("I", ("number", 7)), ("number", 7), ("number", 8), ("number", 9), ONE,
        ])

    def test_one_expression_standing_twice(self):
        same = call("g", X)
        whole = call("f", same, same)
        self.assertEqual(nodes_of(whole), [whole, same, X, same, X])

    def test_all_of_the_greatest_and_beyond(self):
        for many in [39, 40, 41, 100]:
            self.assertEqual(len(nodes_of(wide(many))), many)
        for above in [11, 12, 60, 5000]:
            nodes = nodes_of(nested(above, X))
            self.assertEqual(len(nodes), above + 1)
            self.assertEqual(nodes[-1], X)
            self.assertEqual(nodes[-3:], [nested(2, X), nested(1, X), X])

    def test_a_new_list_each_time(self):
        expression = call("f", X, form("F", ONE))
        one = nodes_of(expression)
        self.assertIs(type(one), list)
        one.append(Y)
        one[0] = Y
        self.assertEqual(nodes_of(expression), [expression, X, form("F", ONE), ONE])
        single = nodes_of(X)
        single.clear()
        self.assertEqual(nodes_of(X), [X])


GOOD_ROWS = [
    ("kind", "k", 0, (("F", ()),)),
    ("kind", "k", 2, (("F", ()), ("G", (0, 1, ("k", 1, 0))), ("H", (("z",),)))),
    ("class", "c", ()),
    ("class", "c", ("d", "e", "f")),
    ("deed", "d", "c", (), 0),
    ("deed", "d", "c", (0, ("k", 0, ("whole",)), ("truth",)), ("list", 0)),
    ("once", "d", (), ONE),
    ("once", "d", ("x", "y"), call("f", X)),
    ("house", "c", "k", ()),
    ("house", "c", "k", ("c", None, "d")),
    ("does", "c", "k", "d", (), ONE),
    ("does", "c", "k", "d", ("x", "y", "z"), form("F", X)),
    ("def", "f", (), ONE),
    ("def", "f", ("x",), case(X, ("F", ("y",), Y))),
    ("ask", ONE),
    ("ask", call("f", ONE, form("F", X))),
]


def places_within(thing, path=()):
    """The ways to all things that stand in a tuple, at any depth."""
    found = []
    if isinstance(thing, tuple):
        for place, part in enumerate(thing):
            found += [path + (place,)] + places_within(part, path + (place,))
    return found


def at(thing, path):
    for place in path:
        thing = thing[place]
    return thing


def replaced(thing, path, other):
    if not path:
        return other
    return thing[:path[0]] + (replaced(thing[path[0]], path[1:], other),) + thing[path[0] + 1:]


class Checked(Rows):
    def test_each_sort_of_row(self):
        self.good_row(*GOOD_ROWS)
        self.taken(GOOD_ROWS)
        self.taken(full())

    def test_the_empty_program(self):
        self.taken([])

    def test_longer_and_shorter(self):
        for row in GOOD_ROWS:
            for many in range(len(row)):
                self.bad_row(row[:many])
            for more in [None, 0, (), "a", ("x",), ONE]:
                self.bad_row(row + (more,))
                self.bad_row(row[:-1] + (more, row[-1]))

    def test_of_no_sort(self):
        for row in GOOD_ROWS:
            for sort in ["", "Kind", "kinds", " ask", "ask ", "form", "number", "row"]:
                self.bad_row((sort,) + row[1:])
            for sort in [None, 0, True, b"ask", (), ["ask"], ("ask",), Odd(), object(), ring_of_lists()]:
                self.bad_row((sort,) + row[1:])

    def test_no_tuple(self):
        for row in GOOD_ROWS:
            self.bad_row(list(row), iter(row), dict(enumerate(row)), [row], (row,), repr(row))
        for thing in neither_name_nor_kind() + ["ask", "", 0, 1, ("a",), ("ask",)]:
            self.bad_row(thing)

    def test_one_sort_with_the_rest_of_another(self):
        alike = [{"once", "def"}]
        for one in GOOD_ROWS:
            for other in GOOD_ROWS:
                if one[0] == other[0] or {one[0], other[0]} in alike:
                    self.good_row(one[:1] + other[1:])
                else:
                    self.bad_row(one[:1] + other[1:])

    def test_a_list_in_the_place_of_each_tuple(self):
        for row in GOOD_ROWS:
            for path in places_within(row):
                if isinstance(at(row, path), tuple):
                    self.bad_row(replaced(row, path, list(at(row, path))))

    def test_things_of_all_kinds_in_each_place(self):
        things = [
            True, False, 1.5, float("nan"), b"a", bytearray(b"a"), [], ["a"], [0], {}, {"a": 0}, set(), frozenset("a"),
            ((),), (True,), (1.5,), (["a"],), range(2), iter(["a"]), len, str, object(), ValueError("a"), ..., Odd(),
            (Odd(),), ("a", Odd()), (Odd(), "a"), ring_of_lists(), ("a", ring_of_lists()), (ring_of_lists(),),
            10 ** 6000, "", "A b", "a" * 100000,
        ] + deep_things()
        for row in GOOD_ROWS:
            for path in places_within(row):
                for thing in things:
                    self.bad_row(replaced(row, path, thing))

    def test_None_in_each_place_but_that_of_a_need(self):
        for row in GOOD_ROWS:
            for path in places_within(row):
                if row[0] == "house" and len(path) == 2:
                    self.good_row(replaced(row, path, None))
                else:
                    self.bad_row(replaced(row, path, None))

    def test_each_name(self):
        rows = {
            "kind": [1], "class": [1], "deed": [1, 2], "once": [1], "house": [1, 2], "does": [1, 2, 3], "def": [1],
        }
        for row in GOOD_ROWS:
            for place in rows.get(row[0], []):
                for name in GOOD_NAMES:
                    self.good_row(replaced(row, (place,), name))
                for name in bad_names() + [None]:
                    self.bad_row(replaced(row, (place,), name))

    def test_a_text_of_a_class_of_its_own(self):
        self.good_row(("class", TextOfItsOwn("c"), (TextOfItsOwn("d"),)))
        self.bad_row(("class", TextOfItsOwn("C"), ()))

    def test_first_of_several_rows_that_are_none(self):
        good, bad = ("ask", ONE), ("ask",)
        for number in range(40):
            program = [good] * number + [bad] + [good] * (39 - number)
            self.refused(program, (number, 0))
            self.refused([good] * number + [bad] * (40 - number), (number, 0))
            self.refused(program[:number + 1], (number, 0))
        for number in range(len(full())):
            self.refused(with_row(full(), number, None), (number, 0))
            self.refused(with_row(full(), number, full()[number][1:]), (number, 0))

    def test_40_rows_and_41(self):
        self.taken([("ask", ONE)] * 39)
        self.taken([("ask", ONE)] * 40)
        for many in [41, 42, 80, 100000]:
            self.refused([("ask", ONE)] * many, None)

    def test_more_than_40_rows_of_which_some_are_none(self):
        self.refused([None] * 41, None)
        self.refused([("ask",)] + [("ask", ONE)] * 40, None)

    def test_no_list(self):
        for thing in neither_name_nor_kind() + deep_things() + [0, 1, "", "ask", ("ask", ONE), ONE]:
            if not isinstance(thing, list):
                self.refused(thing, None)
        self.refused((), None)
        self.refused(tuple(full()), None)
        self.refused(iter(full()), None)
        self.refused(dict(enumerate(full())), None)
        self.refused({("ask", ONE)}, None)

    def test_lists_of_no_rows(self):
        self.refused(ring_of_lists(), (0, 0))
        self.refused([[]], (0, 0))
        self.refused(["ask"], (0, 0))
        self.refused([("ask", ONE), full()], (1, 0))
        for thing in deep_things():
            self.refused([("ask", ONE), ("ask", X), thing], (2, 0))

    def test_new_lists_and_nothing_kept(self):
        program = full()
        told = checked(program)
        told.append(None)
        told[0] = None
        self.assertEqual(program, full())
        again = checked(program)
        self.assertEqual(again, full())
        program.clear()
        self.assertEqual(again, full())
        self.assertEqual(checked(program), [])
        empty = checked([])
        empty.append(1)
        self.assertEqual(checked([]), [])

    def test_what_is_refused_stays(self):
        inner = ["x", {0: [1]}]
        program = [("ask", ONE), ("def", "f", inner, ONE), ("ask", X)]
        kept = list(program)
        self.refused(program, (1, 0))
        self.assertEqual(program, kept)
        self.assertEqual(inner, ["x", {0: [1]}])


class KindRows(Rows):
    def test_how_many(self):
        for many in [0, 1, 2, 3]:
            self.good_row(("kind", "k", many, (("F", ()),)))
        for many in [-1, 4, 5, 100, -10 ** 60, 10 ** 60, True, False, None, 1.0, "1", "", (), (1,), [1], Odd()]:
            self.bad_row(("kind", "k", many, (("F", ()),)))

    def test_one_to_four_forms(self):
        forms = (("F", ()), ("G", (0,)), ("H", (0, 0)), ("I", (0, 0, 0)), ("J", ()))
        for many in [1, 2, 3, 4]:
            self.good_row(("kind", "k", 1, forms[:many]))
            self.good_row(("kind", "k", 1, forms[:1] * many))
        self.bad_row(("kind", "k", 1, ()))
        self.bad_row(("kind", "k", 1, forms))
        self.bad_row(("kind", "k", 1, forms[:1] * 5))
        self.bad_row(("kind", "k", 1, forms * 100))

    def test_what_is_no_form(self):
        for thing in [
            None, (), ("F",), ("F", (), ()), ["F", ()], "F", "FG", ((), "F"), ("F", None), ("F", 0), ("F", "whole"),
            ("F", []), ("F", [0]), ("F", WHOLE), ("F", {0: 1}), Odd(), (Odd(), ()), ("F", Odd()), ("F", (Odd(),)),
        ]:
            self.bad_row(("kind", "k", 1, (thing,)))
            self.bad_row(("kind", "k", 1, (("F", ()), thing)))
            self.bad_row(("kind", "k", 1, (thing, ("F", ()))))
        for forms in [None, "F", 0, ("F", ()), [("F", ())], [], {"F": ()}, iter([("F", ())]), Odd()]:
            self.bad_row(("kind", "k", 1, forms))

    def test_names_of_forms(self):
        for name in GOOD_FORM_NAMES:
            self.good_row(("kind", "k", 1, ((name, ()),)), ("kind", "k", 1, (("F", ()), (name, (0,)))))
        for name in bad_form_names():
            self.bad_row(("kind", "k", 1, ((name, ()),)), ("kind", "k", 1, (("F", ()), (name, (0,)))))

    def test_none_to_three_parts(self):
        for many in range(4):
            self.good_row(("kind", "k", 1, (("F", (0,) * many),)))
            self.good_row(("kind", "k", 0, (("F", (WHOLE,) * many),)))
        for many in [4, 5, 1000]:
            self.bad_row(("kind", "k", 1, (("F", (0,) * many),)))
            self.bad_row(("kind", "k", 0, (("F", ()), ("G", (WHOLE,) * many))))

    def test_what_is_no_kind(self):
        for thing in neither_name_nor_kind() + ["a", "whole", "", [0], ("A",), ("", 0), ("a", "b"), ("a", 0, 0, 0, 0)]:
            for parts in [(thing,), (0, thing), (thing, 0, 0), (0, ("list", thing))]:
                self.bad_row(("kind", "k", 3, (("F", parts),)))
                self.bad_row(("kind", "k", 3, (("F", ()), ("G", parts))))

    def test_kinds_of_a_size_of_24_and_25(self):
        for build in [chain, bushy, lambda size: chain(size, 0)]:
            self.good_row(("kind", "k", 1, (("F", (build(24), build(24), build(24))),) * 4))
            for size in [25, 26, 60]:
                for parts in [(build(size),), (0, build(size)), (build(24), build(24), build(size))]:
                    self.bad_row(("kind", "k", 1, (("F", parts),)), ("kind", "k", 1, (("F", (0,)), ("G", parts))))

    def test_open_kinds_below_many(self):
        for many in range(4):
            for number in range(6):
                for parts in [
                    (number,), (("list", number),), (WHOLE, number), (WHOLE, TRUTH, ("pair", WHOLE, ("list", number))),
                ]:
                    rows = [("kind", "k", many, (("F", parts),)), ("kind", "k", many, (("F", ()), ("G", parts)))]
                    if number < many:
                        self.good_row(*rows)
                    else:
                        self.bad_row(*rows)
        self.bad_row(("kind", "k", 3, (("F", (10 ** 60,)),)))


class OtherRows(Rows):
    """Of each row what is not in it for each sort alike."""

    def test_elders(self):
        for elders in [(), ("a",), ("a", "b"), ("a", "b", "c"), ("a", "a", "a"), ("c",)]:
            self.good_row(("class", "c", elders))
        for elders in [
            ("a", "b", "d", "e"), ("a",) * 5, ["a"], [], "a", "", None, 0, {}, {"a": 1}, Odd(), (None,), ("a", None),
            ("a", 1), (("a",),), (Odd(),), ("a", "b", "A"),
        ]:
            self.bad_row(("class", "c", elders))
        for name in bad_names():
            self.bad_row(("class", "c", (name,)), ("class", "c", ("a", "b", name)))

    def test_params(self):
        for params in [(), (0,), (0, 0), (0, 0, 0), (WHOLE, 0, ("pair", 0, TRUTH)), (WHOLE,)]:
            self.good_row(("deed", "d", "c", params, 0), ("deed", "d", "c", params, WHOLE))
        for params in [
            (0, 0, 0, 0), (0,) * 100, [0], [], None, 0, "", "whole", {}, {0: 0}, WHOLE, ("list", 0), Odd(), (None,),
            (0, None), (True,), (False,), (0, -1), (0.0,), ("a",), (Odd(),), (0, 0, "whole"),
        ]:
            self.bad_row(("deed", "d", "c", params, 0))

    def test_results(self):
        for result in [0, WHOLE, ("list", 0), ("three", 0, WHOLE, ("list", ("list", 0)))]:
            self.good_row(("deed", "d", "c", (0,), result))
        for result in neither_name_nor_kind() + ["whole", "", [0], ("A",), ("a", 0, 0, 0, 0)]:
            self.bad_row(("deed", "d", "c", (0,), result))

    def test_open_kinds_of_a_deed(self):
        for number in [1, 2, 3, 24, 10 ** 60]:
            for kind in [number, ("list", number), ("pair", 0, ("list", number))]:
                self.bad_row(("deed", "d", "c", (kind,), 0), ("deed", "d", "c", (0, WHOLE, kind), 0))
                self.bad_row(("deed", "d", "c", (0,), kind), ("deed", "d", "c", (), kind))

    def test_sizes_of_a_deeds_kinds(self):
        for build in [chain, bushy, lambda size: chain(size, 0)]:
            self.good_row(("deed", "d", "c", (build(24), build(24), build(24)), build(24)))
            for size in [25, 26, 60]:
                self.bad_row(("deed", "d", "c", (0,), build(size)), ("deed", "d", "c", (0, 0, build(size)), 0))
                self.bad_row(("deed", "d", "c", (build(size),), 0))

    def test_names(self):
        rows = [("once", "d", None, ONE), ("does", "c", "k", "d", None, ONE), ("def", "f", None, ONE)]
        for row in rows:
            for names in [(), ("x",), ("x", "y"), ("x", "y", "z"), ("d", "c", "f"), ("abcdefgh",)]:
                self.good_row(row[:-2] + (names, ONE))
            for names in [
                ("x", "x"), ("x", "x", "y"), ("x", "y", "x"), ("y", "x", "x"), ("x", "x", "x"), ("w", "x", "y", "z"),
                ("x",) * 4, ["x"], [], "x", "", None, 0, {}, {"x": 1}, Odd(), (None,), ("x", None), ("x", 1),
                (("x",),), (["x"],), (Odd(),), ("x", Odd()),
            ]:
                self.bad_row(row[:-2] + (names, ONE))
            for name in bad_names():
                self.bad_row(row[:-2] + ((name,), ONE), row[:-2] + (("x", "y", name), ONE))

    def test_needs(self):
        for needs in [(), ("a",), (None,), ("a", None), (None, "a"), (None,) * 3, ("a", "b", "c"), ("a", "a", "a")]:
            self.good_row(("house", "c", "k", needs))
        for needs in [
            ("a", "b", "c", "d"), (None,) * 4, ("a", None, None, "b"), ["a"], [None], [], None, "a", "", 0, {},
            {"a": 1}, Odd(), (0,), (True,), (False,), ((),), (("a",),), (["a"],), (Odd(),), ("a", None, "A"), ("",),
            (b"a",),
        ]:
            self.bad_row(("house", "c", "k", needs))
        for name in bad_names():
            self.bad_row(("house", "c", "k", (name,)), ("house", "c", "k", ("a", None, name)))


if __name__ == "__main__":
    unittest.main()
