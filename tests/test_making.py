"""Points 2 and 23: kinddeeds.making."""

import unittest

from chances import some_program
from kinddeeds.found import Found
from kinddeeds.making import made
from programs import NO, ONE, WHOLE, X, Y, YES, call, case, form, full
from samples import chance
from slowly import SlowFound

LIST = ("kind", "list", 1, (("End", ()), ("Link", (0, ("list", 0)))))
PAIR = ("kind", "pair", 2, (("Pair", (0, 1)),))


def given(number):
    return ("given", number)


def house(row, *trees):
    return ("house", row, trees)


def elder(cls, tree):
    return ("elder", cls, tree)


def own(name, *args):
    return ("call", name, (), args)


class Made(unittest.TestCase):
    def test_a_full_program(self):
        below = own("under", X, Y)
        self.assertEqual(made(Found(full())), (
            {"biggest": (1, ("x", "y"), ("deed", "most", given(0), (X, Y)))},
            {
                8: ({}, {"same": (False, ("x", "y"), case(below, ("Yes", (), NO), ("No", (), YES)))}),
                10: ({"like": house(8)}, {"below": (False, ("x", "y"), below), "most": (False, ("x", "y"), Y)}),
                13: ({}, {"same": (False, ("x", "y"), YES)}),
                15: ({"like": house(13, elder("like", given(0)))}, {
                    "below": (False, ("x", "y"), NO),
                    "most": (True, ("x", "y"), case(
                        ("deed", "below", given(0), (X, Y)), ("Yes", (), Y), ("No", (), X))),
                }),
                17: ({}, {"same": (False, ("x", "y"), NO)}),
            },
            [
                ("call", "biggest", (house(10),), (ONE, ("number", -2))),
                ("deed", "same", house(17, house(8), None),
                 (form("Pair", ONE, form("End")), form("Pair", ONE, form("End")))),
            ],
        ))

    def test_of_nothing(self):
        self.assertEqual(made(Found([])), ({}, {}, []))
        self.assertEqual(made(Found([LIST, ("class", "c", ()), ("deed", "d", "c", (0,), 0)])), ({}, {}, []))

    def test_kinds_of_things_told(self):
        program = made(Found(full()))
        self.assertIs(type(program), tuple)
        self.assertEqual([type(part) for part in program], [dict, dict, list])
        for told in program[1].values():
            self.assertIs(type(told), tuple)
            self.assertEqual([type(part) for part in told], [dict, dict])
            for body in told[1].values():
                self.assertIs(type(body), tuple)
                self.assertIs(type(body[0]), bool)

    def test_expressions_without_calls_stay(self):
        for expression in [ONE, form("Link", ONE, form("End")), case(form("End"), ("End", (), ONE), (
                "Link", ("x", "y"), case(X, ("No", (), ONE), ("Yes", (), ("number", -5)))))]:
            self.assertEqual(made(Found([LIST, ("ask", expression), ("def", "f", ("z",), expression)])), (
                {"f": (0, ("z",), expression)}, {}, [expression]))

    def test_calls_of_what_is_there_of_itself(self):
        for name in ["plus", "minus", "under"]:
            self.assertEqual(made(Found([("ask", call(name, ONE, call("plus", ONE, ONE)))]))[2], [
                own(name, ONE, own("plus", ONE, ONE))])

    def test_calls_of_defs(self):
        rows = [
            ("class", "c", ()), ("class", "e", ()), ("deed", "d", "c", (0,), WHOLE), ("deed", "h", "e", (0,), WHOLE),
            ("def", "f", (), ONE), ("def", "g", ("y", "x"), call("plus", call("h", X), call("d", Y))),
            ("def", "i", ("x",), call("plus", call("g", X, ONE), call("f"))),
            ("house", "c", "truth", ()), ("does", "c", "truth", "d", ("y",), call("g", NO, ONE)),
            ("house", "e", "whole", ()), ("does", "e", "whole", "h", ("z",), ("name", "z")),
            ("ask", call("i", YES)),
        ]
        self.assertEqual(made(Found(rows)), (
            {
                "f": (0, (), ONE),
                "g": (2, ("y", "x"), own("plus", ("deed", "h", given(1), (X,)), ("deed", "d", given(0), (Y,)))),
                "i": (1, ("x",), own("plus", ("call", "g", (given(0), house(9)), (X, ONE)), ("call", "f", (), ()))),
            },
            {
                7: ({}, {"d": (False, ("y",), ("call", "g", (house(7), house(9)), (NO, ONE)))}),
                9: ({}, {"h": (False, ("z",), ("name", "z"))}),
            },
            [("call", "i", (house(7),), (YES,))],
        ))

    def test_calls_at_every_depth(self):
        """In forms, in args of calls, in what a case looks at and in each of its arms: trees by the nodes' numbers."""
        rows = [
            LIST, PAIR, ("class", "c", ()), ("deed", "d", "c", (0,), 0), ("once", "d", ("x",), X),
            ("house", "c", "whole", ()), ("house", "c", "truth", ()), ("house", "c", "list", ("c",)),
        ]
        ones = form("Link", ONE, form("End"))
        looked_at = call("d", form("Link", call("d", NO), form("End")))
        within = call("plus", ONE, call("d", call("d", ONE)))
        end = form("Pair", call("d", ONE), call("d", ones))
        expression = case(looked_at, ("Link", ("x", "y"), form("Pair", within, call("d", form("Link", ONE, form(
            "End"))))), ("End", (), case(call("d", X), ("No", (), end), ("Yes", (), end))))
        rows.append(("def", "f", ("x",), expression))
        one, truth, numbers, truths = house(5), house(6), house(7, house(5)), house(7, house(6))
        told_end = form("Pair", ("deed", "d", one, (ONE,)), ("deed", "d", numbers, (ones,)))
        told = case(
            ("deed", "d", truths, (form("Link", ("deed", "d", truth, (NO,)), form("End")),)),
            ("Link", ("x", "y"), form(
                "Pair", own("plus", ONE, ("deed", "d", one, (("deed", "d", one, (ONE,)),))),
                ("deed", "d", numbers, (ones,)))),
            ("End", (), case(("deed", "d", truth, (X,)), ("No", (), told_end), ("Yes", (), told_end))))
        self.assertEqual(made(Found(rows))[0], {"f": (0, ("x",), told)})

    def test_elders_and_bodies_of_houses(self):
        """A class with three elders, one with elders of its own; bodies by once and does rows, of its deeds alone."""
        rows = [
            LIST, ("class", "a", ()), ("class", "b", ()), ("class", "c", ("b",)), ("class", "d", ("c", "a", "b")),
            ("deed", "da", "a", (0,), 0), ("deed", "dc", "d", (0,), 0), ("deed", "dd", "d", (), 0),
            ("once", "da", ("u",), ("name", "u")), ("once", "dc", ("v",), call("da", ("name", "v"))),
            ("once", "dd", (), call("dd")),  # 10
            ("house", "a", "list", (None,)), ("house", "b", "list", ("b",)), ("house", "c", "list", ("c",)),
            ("house", "d", "list", ("d",)), ("does", "d", "list", "dd", (), form("End")),  # 15
        ]
        self.assertEqual(made(Found(rows)), ({}, {
            11: ({}, {"da": (True, ("u",), ("name", "u"))}),
            12: ({}, {}),
            13: ({"b": house(12, elder("b", given(0)))}, {}),
            14: (
                {"c": house(13, elder("c", given(0))), "a": house(11, None),
                 "b": house(12, elder("b", elder("c", given(0))))},
                {"dc": (True, ("v",), ("deed", "da", elder("a", given(0)), (("name", "v"),))),
                 "dd": (False, (), form("End"))},
            ),
        }, []))

    def test_asks_in_their_order(self):
        rows = [("ask", ("number", 3)), ("def", "f", (), ONE), ("ask", ("number", 1)), ("ask", ("number", 2))]
        self.assertEqual(made(Found(rows))[2], [("number", 3), ("number", 1), ("number", 2)])

    def test_the_order_of_rows(self):
        functions, houses, asks = made(Found([
            ("def", "z", (), ONE), ("class", "c", ()), ("house", "c", "truth", ()), ("def", "a", (), ONE),
            ("house", "c", "whole", ()), ("deed", "y", "c", (0,), 0), ("deed", "b", "c", (0,), 0),
            ("once", "b", ("x",), X), ("once", "y", ("x",), X)]))
        self.assertEqual(sorted(functions), ["a", "z"])
        self.assertEqual(sorted(houses), [2, 4])
        self.assertEqual(sorted(houses[2][1]), ["b", "y"])


class AgainstAnotherWay(unittest.TestCase):
    def remade(self, slow, row, number):
        """The expression by the slow bodies, node by node."""
        body = slow.bodies[row]
        node = body.nodes[number]
        kids = [self.remade(slow, row, kid) for kid in body.kids[number]]
        if node[0] in ("number", "name"):
            return node
        if node[0] == "form":
            return ("form", node[1], tuple(kids))
        if node[0] == "case":
            return ("case", kids[0], tuple(arm[:2] + (kid,) for arm, kid in zip(node[2], kids[1:])))
        if node[1] in slow.lore.deeds:
            return ("deed", node[1], body.trees[number][0], tuple(kids))
        return ("call", node[1], body.trees.get(number, ()), tuple(kids))

    def test_programs_by_chance(self):
        random = chance(231)
        many = 0
        while many < 300:
            rows = some_program(random, random.randrange(2))
            slow = SlowFound(rows)
            if slow.fault is not None:
                continue
            many += 1
            functions = {row[1]: (len(slow.told[row[1]][2]), row[2], self.remade(slow, number, 1))
                         for number, row in enumerate(rows) if row[0] == "def"}
            asks = [self.remade(slow, number, 1) for number, row in enumerate(rows) if row[0] == "ask"]
            houses = {}
            for (cls, kind), (number, needs) in slow.lore.houses.items():
                parts = [need and (need, part) for part, need in enumerate(needs)]
                elders = {above: slow.lore.tree(parts, above, (kind, *range(len(needs))))
                          for above in slow.lore.elders[cls]}
                bodies = {}
                for deed in slow.lore.deeds:
                    if slow.lore.deeds[deed][0] == cls:
                        row = slow.lore.does.get((cls, kind, deed), slow.lore.onces.get(deed))
                        bodies[deed] = (rows[row][0] == "once", rows[row][-2], self.remade(slow, row, 1))
                houses[number] = (elders, bodies)
            self.assertEqual(made(Found(rows)), (functions, houses, asks))


class NothingKept(unittest.TestCase):
    def spoil(self, program):
        program[0].clear()
        for told in program[1].values():
            told[0].clear()
            told[1]["nothing"] = None
            told[1].clear()
        program[1].clear()
        program[2].append(ONE)
        program[2].reverse()

    def test_each_telling_is_the_askers_own(self):
        found = Found(full())
        first = made(found)
        second = made(found)
        self.spoil(first)
        self.assertEqual(second, made(Found(full())))
        self.assertEqual(made(found), second)
        self.spoil(second)
        self.assertEqual(made(found), made(Found(full())))
        self.assertEqual(found.lore().rows(), full())

    def test_the_found_stays(self):
        found = Found(full())
        made(found)
        self.assertEqual(found.lore().rows(), full())
        self.assertEqual(found.trees_at(20, 1), (house(10),))
        self.assertEqual(found.told("biggest"), ((0, 0), 0, (("order", 0),)))

    def test_the_rows_handed_in_do_not_count_later(self):
        rows = full()
        found = Found(rows)
        before = made(found)
        rows.clear()
        self.assertEqual(made(found), before)


if __name__ == "__main__":
    unittest.main()
