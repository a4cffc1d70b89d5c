"""Points 2, 8 to 10 and 12: kinddeeds.lore."""

import unittest

from kinddeeds.errors import NoProgram
from kinddeeds.lore import Lore
from programs import ONE, TRUTH, WHOLE, X, Y, call, case, full, without_row
from samples import Odd, chance, neither_name_nor_kind

NO_NAMES = ["", "nothing", "a", "zzzzzzzz", "Whole", "abcdefghi", "0", "-", "list ", "whole()"]


class OfAFullProgram(unittest.TestCase):
    def setUp(self):
        self.lore = Lore(full())

    def test_rows(self):
        self.assertEqual(self.lore.rows(), full())

    def test_many_of(self):
        self.assertEqual(self.lore.many_of("list"), 1)
        self.assertEqual(self.lore.many_of("pair"), 2)
        self.assertEqual(self.lore.many_of("whole"), 0)
        self.assertEqual(self.lore.many_of("truth"), 0)

    def test_forms_of(self):
        self.assertEqual(self.lore.forms_of("list"), [("End", ()), ("Link", (0, ("list", 0)))])
        self.assertEqual(self.lore.forms_of("pair"), [("Pair", (0, 1))])
        self.assertEqual(self.lore.forms_of("truth"), [("No", ()), ("Yes", ())])
        self.assertEqual(self.lore.forms_of("whole"), [])

    def test_kind_of_form(self):
        for form, kind in [("End", "list"), ("Link", "list"), ("Pair", "pair"), ("No", "truth"), ("Yes", "truth")]:
            self.assertEqual(self.lore.kind_of_form(form), kind)

    def test_elders(self):
        self.assertEqual(self.lore.elders_of("like"), [])
        self.assertEqual(self.lore.elders_of("order"), ["like"])
        self.assertEqual(self.lore.far_elders("like"), [])
        self.assertEqual(self.lore.far_elders("order"), ["like"])

    def test_deed_of(self):
        self.assertEqual(self.lore.deed_of("same"), ("like", (0, 0), TRUTH))
        self.assertEqual(self.lore.deed_of("below"), ("order", (0, 0), TRUTH))
        self.assertEqual(self.lore.deed_of("most"), ("order", (0, 0), 0))
        self.assertIs(type(self.lore.deed_of("most")), tuple)

    def test_functions_that_are_no_deeds(self):
        for name in ["plus", "minus", "under", "biggest"]:
            self.assertIsNone(self.lore.deed_of(name))

    def test_deeds_of(self):
        self.assertEqual(self.lore.deeds_of("like"), ["same"])
        self.assertEqual(self.lore.deeds_of("order"), ["below", "most"])

    def test_house_of(self):
        houses = {
            ("like", "whole"): 8, ("order", "whole"): 10, ("like", "list"): 13, ("order", "list"): 15,
            ("like", "pair"): 17,
        }
        for cls in ["like", "order", "nothing"]:
            for kind in ["whole", "truth", "list", "pair", "nothing"]:
                self.assertEqual(self.lore.house_of(cls, kind), houses.get((cls, kind)))

    def test_needs_of(self):
        needs = {8: (), 10: (), 13: ("like",), 15: ("order",), 17: ("like", None)}
        for row in range(-30, 60):
            self.assertEqual(self.lore.needs_of(row), needs.get(row))
        self.assertIs(type(self.lore.needs_of(17)), tuple)

    def test_body_of(self):
        bodies = {
            (8, "same"): 9, (10, "below"): 11, (10, "most"): 12, (13, "same"): 14, (15, "below"): 16, (15, "most"): 7,
            (17, "same"): 18,
        }
        for row in range(-30, 60):
            for deed in ["same", "below", "most", "biggest", "plus", "under", "nothing", "", "like"]:
                self.assertEqual(self.lore.body_of(row, deed), bodies.get((row, deed)), (row, deed))

    def test_names_that_nothing_has(self):
        lore = self.lore
        for name in NO_NAMES:
            for told in [
                lore.many_of(name), lore.forms_of(name), lore.kind_of_form(name), lore.elders_of(name),
                lore.far_elders(name), lore.deed_of(name), lore.deeds_of(name), lore.house_of(name, name),
                lore.house_of("like", name), lore.house_of(name, "whole"), lore.body_of(8, name),
            ]:
                self.assertIsNone(told, name)

    def test_names_of_something_else(self):
        lore = self.lore
        for name in ["like", "order", "same", "most", "biggest", "End", "plus", "x"]:
            self.assertIsNone(lore.many_of(name))
            self.assertIsNone(lore.forms_of(name))
            self.assertIsNone(lore.house_of("like", name))
        for name in ["list", "whole", "truth", "like", "same", "plus", "kind"]:
            self.assertIsNone(lore.kind_of_form(name))
        for name in ["list", "whole", "truth", "End", "same", "biggest", "plus"]:
            self.assertIsNone(lore.elders_of(name))
            self.assertIsNone(lore.far_elders(name))
            self.assertIsNone(lore.deeds_of(name))
            self.assertIsNone(lore.house_of(name, "whole"))
        for name in ["list", "whole", "like", "order", "End"]:
            self.assertIsNone(lore.deed_of(name))
            self.assertIsNone(lore.body_of(10, name))


class OfTheEmptyProgram(unittest.TestCase):
    def test_what_is_there_of_itself(self):
        lore = Lore([])
        self.assertEqual(lore.rows(), [])
        self.assertEqual(lore.many_of("whole"), 0)
        self.assertEqual(lore.many_of("truth"), 0)
        self.assertEqual(lore.forms_of("whole"), [])
        self.assertEqual(lore.forms_of("truth"), [("No", ()), ("Yes", ())])
        self.assertEqual(lore.kind_of_form("No"), "truth")
        self.assertEqual(lore.kind_of_form("Yes"), "truth")

    def test_nothing_else(self):
        lore = Lore([])
        for name in NO_NAMES + ["list", "like", "plus", "minus", "under"]:
            for told in [
                lore.many_of(name), lore.forms_of(name), lore.kind_of_form(name), lore.elders_of(name),
                lore.far_elders(name), lore.deed_of(name), lore.deeds_of(name), lore.house_of(name, "whole"),
                lore.house_of("like", name), lore.body_of(0, name),
            ]:
                self.assertIsNone(told, name)
        for name in ["whole", "truth"]:
            for told in [lore.kind_of_form(name), lore.elders_of(name), lore.deeds_of(name), lore.deed_of(name)]:
                self.assertIsNone(told)
            self.assertIsNone(lore.house_of("like", name))
        for row in [-2, -1, 0, 1, 2]:
            self.assertIsNone(lore.needs_of(row))
            self.assertIsNone(lore.body_of(row, "plus"))


class Kinds(unittest.TestCase):
    def test_parts_as_told(self):
        forms = (
            ("F", (2, 0, ("many", 1, 1, ("many", 0, WHOLE, 2)))), ("G", ()), ("Abcdefgh", (TRUTH,)), ("Z", (1, 1, 1)),
        )
        lore = Lore([("kind", "many", 3, forms)])
        self.assertEqual(lore.many_of("many"), 3)
        self.assertEqual(lore.forms_of("many"), list(forms))
        for name, parts in forms:
            self.assertEqual(lore.kind_of_form(name), "many")

    def test_how_many_parts_are_told_not_used(self):
        for many in range(4):
            lore = Lore([("kind", "k", many, (("F", ()),))])
            self.assertEqual(lore.many_of("k"), many)
            self.assertEqual(lore.forms_of("k"), [("F", ())])

    def test_whole_and_truth_within_rows(self):
        lore = Lore([
            ("kind", "box", 0, (("Box", (WHOLE, TRUTH)),)), ("class", "c", ()), ("deed", "d", "c", (0, WHOLE), TRUTH),
            ("once", "d", ("x", "y"), X), ("house", "c", "whole", ()), ("house", "c", "truth", ()),
        ])
        self.assertEqual(lore.forms_of("box"), [("Box", (WHOLE, TRUTH))])
        self.assertEqual(lore.house_of("c", "whole"), 4)
        self.assertEqual(lore.house_of("c", "truth"), 5)
        self.assertEqual(lore.body_of(4, "d"), 3)
        self.assertEqual(lore.body_of(5, "d"), 3)


class Elders(unittest.TestCase):
    def lore(self, *classes):
        return Lore([("class", cls, tuple(elders)) for cls, elders in classes])

    def test_elders_in_the_order_told(self):
        lore = self.lore(("a", ""), ("b", ""), ("c", ""), ("d", "cab"), ("e", "bd"), ("f", "aa"))
        self.assertEqual(lore.elders_of("a"), [])
        self.assertEqual(lore.elders_of("d"), ["c", "a", "b"])
        self.assertEqual(lore.elders_of("e"), ["b", "d"])
        self.assertEqual(lore.elders_of("f"), ["a", "a"])

    def test_far_elders_by_rows(self):
        lore = self.lore(("a", ""), ("b", ""), ("c", ""), ("d", "cab"), ("e", "bd"), ("f", "aa"))
        self.assertEqual(lore.far_elders("a"), [])
        self.assertEqual(lore.far_elders("d"), ["a", "b", "c"])
        self.assertEqual(lore.far_elders("e"), ["a", "b", "c", "d"])
        self.assertEqual(lore.far_elders("f"), ["a"])

    def test_rows_of_elders_behind(self):
        lore = self.lore(("e", "db"), ("d", "ca"), ("c", "a"), ("b", ""), ("a", ""))
        self.assertEqual(lore.far_elders("e"), ["d", "c", "b", "a"])
        self.assertEqual(lore.far_elders("d"), ["c", "a"])
        self.assertEqual(lore.far_elders("c"), ["a"])
        self.assertEqual(lore.far_elders("b"), [])

    def test_come_to_by_two_ways(self):
        lore = self.lore(("top", ["left", "right"]), ("right", ["end"]), ("end", []), ("left", ["end"]))
        self.assertEqual(lore.far_elders("top"), ["right", "end", "left"])
        lore = self.lore(("end", []), ("left", ["end"]), ("top", ["left", "end"]))
        self.assertEqual(lore.far_elders("top"), ["end", "left"])

    def test_a_long_row(self):
        names = [chr(97 + place // 26) + chr(97 + place % 26) for place in range(40)]
        classes = [(name, names[place + 1:place + 4]) for place, name in enumerate(names)]
        lore = self.lore(*classes)
        for place, name in enumerate(names):
            self.assertEqual(lore.far_elders(name), names[place + 1:])
        lore = self.lore(*classes[::-1])
        for place, name in enumerate(names):
            self.assertEqual(lore.far_elders(name), names[:place:-1])

    def test_against_another_way(self):
        random = chance(12)
        for step in range(300):
            names = random.sample("abcdefghij", 10)
            told = {name: random.sample(names[place + 1:], min(9 - place, random.randrange(4)))
                    for place, name in enumerate(names)}
            rows = random.sample(names, 10)
            lore = self.lore(*[(name, told[name]) for name in rows])
            for name in names:
                found = set(told[name])
                for again in names:
                    found |= {elder for one in found for elder in told[one]}
                self.assertEqual(lore.elders_of(name), told[name])
                self.assertEqual(lore.far_elders(name), [cls for cls in rows if cls in found])


class Deeds(unittest.TestCase):
    ROWS = [
        ("class", "c", ()), ("class", "e", ()),
        ("deed", "z", "c", (), 0), ("deed", "y", "e", (0,), WHOLE), ("deed", "a", "c", (WHOLE, ("list", 0)), TRUTH),
        ("deed", "m", "c", (0, 0, 0), ("list", ("list", 0))),
        ("kind", "list", 1, (("End", ()),)),
    ]

    def test_deeds_by_rows(self):
        lore = Lore(self.ROWS)
        self.assertEqual(lore.deeds_of("c"), ["z", "a", "m"])
        self.assertEqual(lore.deeds_of("e"), ["y"])
        lore = Lore(self.ROWS[::-1])
        self.assertEqual(lore.deeds_of("c"), ["m", "a", "z"])

    def test_deeds_as_told(self):
        lore = Lore(self.ROWS)
        for row in self.ROWS[2:6]:
            self.assertEqual(lore.deed_of(row[1]), row[2:])

    def test_a_class_without_deeds(self):
        self.assertEqual(Lore([("class", "c", ())]).deeds_of("c"), [])

    def test_deeds_of_elders_are_no_deeds_of_a_class(self):
        lore = Lore(self.ROWS + [("class", "f", ("c", "e"))])
        self.assertEqual(lore.deeds_of("f"), [])


class Houses(unittest.TestCase):
    ROWS = [
        ("class", "c", ()), ("class", "under", ("c",)), ("deed", "d", "c", (0,), 0), ("deed", "e", "under", (0,), 0),
        ("once", "d", ("x",), X), ("once", "e", ("x",), X),
        ("house", "c", "whole", ()), ("house", "c", "truth", ()), ("house", "under", "truth", ()),
        ("does", "c", "truth", "d", ("x",), X),
    ]

    def test_the_does_row_ahead_of_the_once_row(self):
        lore = Lore(self.ROWS)
        self.assertEqual(lore.body_of(6, "d"), 4)
        self.assertEqual(lore.body_of(7, "d"), 9)
        self.assertEqual(lore.body_of(8, "e"), 5)
        lore = Lore(self.ROWS[::-1])
        self.assertEqual(lore.body_of(3, "d"), 5)
        self.assertEqual(lore.body_of(2, "d"), 0)
        self.assertEqual(lore.body_of(1, "e"), 4)

    def test_a_deed_of_another_class(self):
        """Of an elder, of a class beneath, of none."""
        lore = Lore(self.ROWS)
        self.assertIsNone(lore.body_of(8, "d"))
        self.assertIsNone(lore.body_of(7, "e"))
        self.assertIsNone(lore.body_of(7, "x"))

    def test_a_does_row_of_another_kind_or_class_does_not_serve(self):
        lore = Lore(self.ROWS + [
            ("class", "other", ()), ("deed", "f", "other", (0,), 0), ("house", "other", "truth", ()),
            ("does", "other", "truth", "f", ("x",), X), ("house", "other", "whole", ()),
            ("does", "other", "whole", "f", ("x",), X),
        ])
        self.assertEqual(lore.body_of(12, "f"), 13)
        self.assertEqual(lore.body_of(14, "f"), 15)
        self.assertEqual(lore.body_of(6, "d"), 4)

    def test_a_house_in_the_first_and_in_the_last_row(self):
        rows = [("house", "c", "list", (None,)), ("class", "c", ()), ("kind", "list", 1, (("End", ()),)),
                ("house", "c", "whole", ())]
        lore = Lore(rows)
        self.assertEqual(lore.house_of("c", "list"), 0)
        self.assertEqual(lore.house_of("c", "whole"), 3)
        self.assertEqual(lore.needs_of(0), (None,))
        self.assertEqual(lore.needs_of(3), ())
        for row in [-4, -1, 1, 2, 4, 40, 10 ** 60, -10 ** 60]:
            self.assertIsNone(lore.needs_of(row))
            self.assertIsNone(lore.body_of(row, "d"))

    def test_needs_as_told(self):
        kinds = [("kind", "k", 3, (("F", (0, 1, 2)),)), ("class", "a", ()), ("class", "b", ())]
        for needs in [("a", "b", "a"), (None, None, None), ("b", None, "b"), (None, "a", None)]:
            lore = Lore(kinds + [("house", "a", "k", needs)])
            self.assertEqual(lore.needs_of(3), needs)


class RowsInAnyOrder(unittest.TestCase):
    def test_all_that_is_told(self):
        random = chance(5)
        first = Lore(full())
        for step in range(200):
            rows = random.sample(full(), len(full()))
            moved = [rows.index(row) for row in full()]
            lore = Lore(rows)
            self.assertEqual(lore.rows(), rows)
            for kind in ["whole", "truth", "list", "pair"]:
                self.assertEqual(lore.many_of(kind), first.many_of(kind))
                self.assertEqual(lore.forms_of(kind), first.forms_of(kind))
            for form in ["No", "Yes", "End", "Link", "Pair"]:
                self.assertEqual(lore.kind_of_form(form), first.kind_of_form(form))
            for cls in ["like", "order"]:
                self.assertEqual(lore.elders_of(cls), first.elders_of(cls))
                self.assertEqual(lore.deeds_of(cls), [row[1] for row in rows if row[0] == "deed" and row[2] == cls])
                for kind in ["whole", "truth", "list", "pair"]:
                    self.one_house(first, lore, moved, cls, kind)

    def one_house(self, first, lore, moved, cls, kind):
        row = first.house_of(cls, kind)
        if row is None:
            self.assertIsNone(lore.house_of(cls, kind))
            return
        self.assertEqual(lore.house_of(cls, kind), moved[row])
        self.assertEqual(lore.needs_of(moved[row]), first.needs_of(row))
        for deed in first.deeds_of(cls):
            self.assertEqual(lore.body_of(moved[row], deed), moved[first.body_of(row, deed)])


class OneNameForMany(unittest.TestCase):
    def test_a_kind_a_class_and_a_function(self):
        for function in [("def", "one", (), ONE), ("deed", "one", "one", (0,), 0)]:
            lore = Lore([
                ("kind", "one", 1, (("One", (0,)),)), ("class", "one", ()), function, ("once", "d", (), ONE),
                ("house", "one", "one", ("one",)), ("does", "one", "one", "d", (), ONE), ("deed", "d", "one", (), 0),
            ] + [("once", "one", ("one",), ("name", "one"))] * (function[0] == "deed"))
            self.assertEqual(lore.many_of("one"), 1)
            self.assertEqual(lore.forms_of("one"), [("One", (0,))])
            self.assertEqual(lore.elders_of("one"), [])
            self.assertEqual(lore.house_of("one", "one"), 4)
            self.assertEqual(lore.needs_of(4), ("one",))
            self.assertEqual(lore.body_of(4, "d"), 5)
            if function[0] == "deed":
                self.assertEqual(lore.deed_of("one"), ("one", (0,), 0))
                self.assertEqual(lore.deeds_of("one"), ["one", "d"])
                self.assertEqual(lore.body_of(4, "one"), 7)
            else:
                self.assertIsNone(lore.deed_of("one"))
                self.assertEqual(lore.deeds_of("one"), ["d"])
                self.assertIsNone(lore.body_of(4, "one"))

    def test_names_of_what_is_there_of_itself(self):
        lore = Lore([
            ("kind", "plus", 0, (("Whole", ()),)), ("class", "whole", ()), ("def", "truth", (), ONE),
            ("class", "plus", ("whole",)), ("house", "whole", "plus", ()), ("deed", "whole", "plus", (0,), WHOLE),
        ])
        self.assertEqual(lore.many_of("plus"), 0)
        self.assertEqual(lore.far_elders("plus"), ["whole"])
        self.assertEqual(lore.deed_of("whole"), ("plus", (0,), WHOLE))
        self.assertEqual(lore.house_of("whole", "plus"), 4)


class NoPrograms(unittest.TestCase):
    def refused(self, program, place):
        with self.assertRaises(NoProgram) as taken:
            Lore(program)
        self.assertEqual(taken.exception.place, place)

    def test_of_anything(self):
        for thing in neither_name_nor_kind() + [0, "", "ask", tuple(full()), Odd(), [("ask", ONE)] * 41]:
            if not isinstance(thing, list) or len(thing) > 40:
                self.refused(thing, None)
        for thing in neither_name_nor_kind() + [("ask",), ["ask", ONE], ("ask", 1)]:
            self.refused([("ask", ONE), thing], (1, 0))

    def test_40_rows(self):
        self.assertEqual(len(Lore([("ask", ONE)] * 40).rows()), 40)

    def test_bodies_are_not_looked_at(self):
        """Faults within bodies alone: names, forms and functions that are not there, and kinds that do not fit."""
        wrong = case(call("nothing", Y), ("Nothing", ("x",), call("plus", X, ("form", "Yes", ()))), ("No", (), Y))
        rows = [("def", "f", ("x",), wrong), ("ask", wrong), ("class", "c", ()), ("deed", "d", "c", (0,), 0),
                ("once", "d", ("x",), wrong), ("house", "c", "whole", ()), ("does", "c", "whole", "d", ("x",), wrong)]
        self.assertEqual(Lore(rows).rows(), rows)


class NothingKept(unittest.TestCase):
    def told(self, lore):
        kinds = ["whole", "truth", "list", "pair", "nothing"]
        classes = ["like", "order", "nothing"]
        deeds = ["same", "below", "most", "nothing"]
        return [
            lore.rows(), [lore.many_of(kind) for kind in kinds], [lore.forms_of(kind) for kind in kinds],
            [lore.kind_of_form(form) for form in ["No", "Yes", "End", "Link", "Pair", "Nothing"]],
            [lore.elders_of(cls) for cls in classes], [lore.far_elders(cls) for cls in classes],
            [lore.deed_of(deed) for deed in deeds], [lore.deeds_of(cls) for cls in classes],
            [lore.house_of(cls, kind) for cls in classes for kind in kinds],
            [lore.needs_of(row) for row in range(-2, 30)],
            [lore.body_of(row, deed) for row in range(-2, 30) for deed in deeds],
        ]

    def lists(self, lore):
        return [
            lore.rows(), lore.forms_of("list"), lore.forms_of("truth"), lore.forms_of("whole"), lore.elders_of("order"),
            lore.elders_of("like"), lore.far_elders("order"), lore.far_elders("like"), lore.deeds_of("order"),
            lore.deeds_of("like"),
        ]

    def test_asking_changes_nothing(self):
        lore = Lore(full())
        self.assertEqual(self.told(lore), self.told(lore))

    def test_each_list_is_the_askers_own(self):
        lore = Lore(full())
        before = self.told(lore)
        for told in self.lists(lore):
            self.assertIs(type(told), list)
            told.append(("class", "nothing", ()))
            told.insert(0, "nothing")
        self.assertEqual(self.told(lore), before)
        for told in self.lists(lore):
            told.clear()
        self.assertEqual(self.told(lore), before)
        self.assertEqual(self.told(Lore(full())), before)
        self.assertEqual(Lore([]).forms_of("truth"), [("No", ()), ("Yes", ())])
        self.assertEqual(Lore([]).forms_of("whole"), [])

    def test_lists_told_ahead_stay(self):
        lore = Lore(full())
        ahead = self.lists(lore)
        kept = [list(told) for told in ahead]
        for told in self.lists(lore):
            told.reverse()
            told.append(None)
        self.assertEqual(ahead, kept)

    def test_the_list_handed_in_stays_and_is_not_kept(self):
        program = full()
        lore = Lore(program)
        self.assertEqual(program, full())
        before = self.told(lore)
        program.reverse()
        program.append(("class", "nothing", ()))
        self.assertEqual(self.told(lore), before)
        program.clear()
        self.assertEqual(self.told(lore), before)

    def test_a_refused_list_stays(self):
        for program in [full() + full(), full() + [("class", "like", ())], without_row(full(), 2), [None]]:
            kept = list(program)
            with self.assertRaises(ValueError):
                Lore(program)
            self.assertEqual(program, kept)

    def test_two_lores_side_by_side(self):
        one = Lore(full())
        before = self.told(one)
        other = Lore([("class", "like", ()), ("kind", "list", 0, (("Pair", ()),))])
        self.assertEqual(self.told(one), before)
        self.assertEqual(other.many_of("list"), 0)
        self.assertEqual(other.kind_of_form("Pair"), "list")
        self.assertIsNone(other.kind_of_form("End"))
        self.assertIsNone(other.elders_of("order"))


if __name__ == "__main__":
    unittest.main()
