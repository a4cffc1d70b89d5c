"""Points 2, 3 (a), 3 (c) and 12 to 14: kinddeeds.trees."""

import unittest

from chances import Maker
from kinddeeds.lore import Lore
from kinddeeds.trees import closed, elder_tree, tree_by, tree_of
from programs import TRUTH, WHOLE
from samples import chance, changed, size
from slowly import SlowLore

UNIT = ("unit",)


def rows():
    """Houses alone, without deeds, so that they need no bodies; a new list each time."""
    return [
        ("kind", "list", 1, (("End", ()), ("Link", (0, ("list", 0))))),  # 0
        ("kind", "pair", 2, (("Pair", (0, 1)),)),
        ("kind", "trio", 3, (("Trio", (0, 1, 2)),)),
        ("kind", "unit", 0, (("Unit", ()),)),
        ("class", "base", ()),
        ("class", "left", ("base",)),  # 5
        ("class", "right", ("base",)),
        ("class", "top", ("right", "left")),
        ("class", "roof", ("top", "base")),
        ("class", "lone", ()),
        ("house", "base", "whole", ()),  # 10
        ("house", "base", "truth", ()),
        ("house", "base", "list", ("base",)),
        ("house", "base", "pair", ("base", None)),
        ("house", "base", "trio", (None, "lone", "base")),
        ("house", "left", "whole", ()),  # 15
        ("house", "left", "list", ("base",)),
        ("house", "left", "pair", ("left", "lone")),
        ("house", "right", "whole", ()),
        ("house", "right", "list", ("right",)),
        ("house", "right", "pair", ("base", "right")),  # 20
        ("house", "top", "whole", ()),
        ("house", "top", "list", ("top",)),
        ("house", "roof", "whole", ()),
        ("house", "roof", "list", ("roof",)),
        ("house", "lone", "truth", ()),  # 25
        ("house", "lone", "unit", ()),
        ("house", "lone", "list", (None,)),
    ]


def listed(kind, deep):
    for step in range(deep):
        kind = ("list", kind)
    return kind


def house(row, *trees):
    return ("house", row, trees)


def elder(cls, tree):
    return ("elder", cls, tree)


def given(number):
    return ("given", number)


class Trees(unittest.TestCase):
    def setUp(self):
        self.lore = Lore(rows())


class OfClosedKinds(Trees):
    def tree(self, cls, kind, tree):
        self.assertEqual(tree_of(self.lore, cls, kind), tree)

    def test_kinds_without_parts(self):
        self.tree("base", WHOLE, house(10))
        self.tree("base", TRUTH, house(11))
        self.tree("left", WHOLE, house(15))
        self.tree("roof", WHOLE, house(23))
        self.tree("lone", TRUTH, house(25))
        self.tree("lone", UNIT, house(26))

    def test_one_part(self):
        self.tree("base", ("list", WHOLE), house(12, house(10)))
        self.tree("base", ("list", ("list", TRUTH)), house(12, house(12, house(11))))
        self.tree("left", ("list", WHOLE), house(16, house(10)))
        self.tree("left", ("list", ("list", WHOLE)), house(16, house(12, house(10))))
        self.tree("top", ("list", ("list", WHOLE)), house(22, house(22, house(21))))

    def test_two_parts(self):
        self.tree("base", ("pair", WHOLE, TRUTH), house(13, house(10), None))
        self.tree("left", ("pair", WHOLE, TRUTH), house(17, house(15), house(25)))
        self.tree("right", ("pair", TRUTH, WHOLE), house(20, house(11), house(18)))

    def test_three_parts(self):
        self.tree("base", ("trio", WHOLE, TRUTH, WHOLE), house(14, None, house(25), house(10)))
        self.tree(
            "base", ("trio", UNIT, UNIT, ("pair", ("list", WHOLE), UNIT)),
            house(14, None, house(26), house(13, house(12, house(10)), None)),
        )

    def test_a_part_that_is_not_needed_may_have_no_house(self):
        self.tree("base", ("pair", WHOLE, UNIT), house(13, house(10), None))
        self.tree("lone", ("list", WHOLE), house(27, None))
        self.tree("lone", ("list", ("list", ("pair", UNIT, UNIT))), house(27, None))
        self.tree("base", ("trio", UNIT, TRUTH, TRUTH), house(14, None, house(25), house(11)))

    def test_no_house_at_the_kind_itself(self):
        for cls, kind in [("base", UNIT), ("left", TRUTH), ("top", ("pair", WHOLE, WHOLE)), ("lone", WHOLE),
                          ("roof", ("trio", WHOLE, WHOLE, WHOLE))]:
            self.tree(cls, kind, None)

    def test_no_house_at_a_part_that_is_needed(self):
        for cls, kind in [("base", ("list", UNIT)), ("base", ("pair", UNIT, WHOLE)), ("left", ("pair", WHOLE, WHOLE)),
                          ("left", ("pair", TRUTH, TRUTH)), ("base", ("trio", WHOLE, WHOLE, WHOLE)),
                          ("base", ("trio", WHOLE, UNIT, UNIT)), ("top", ("list", TRUTH)),
                          ("base", ("list", ("list", ("pair", ("list", UNIT), WHOLE))))]:
            self.tree(cls, kind, None)

    def test_names_that_nothing_has(self):
        self.tree("nothing", WHOLE, None)
        self.tree("base", ("nothing",), None)
        self.tree("base", ("list", ("'0",)), None)

    def test_kinds_of_size_60(self):
        tree = house(10)
        for step in range(59):
            tree = house(12, tree)
        self.tree("base", listed(WHOLE, 59), tree)
        self.tree("base", listed(UNIT, 59), None)
        self.tree("lone", listed(UNIT, 59), house(27, None))

    def test_against_another_way(self):
        random = chance(121)
        told = 0
        for step in range(150):
            maker, lore, slow = some_houses(random)
            for cls in maker.elders:
                for again in range(10):
                    kind = maker.some_kind(random.randrange(4))
                    if size(kind) <= 60:
                        tree = tree_of(lore, cls, kind)
                        self.assertEqual(tree, slow.tree([], cls, kind))
                        told += tree is not None
        self.assertGreater(told, 500)


def some_houses(random):
    """Kinds, classes and houses by chance, as made, as a Lore and as a SlowLore."""
    while True:
        maker = Maker(random)
        maker.make_classes()
        maker.make_houses()
        told = [row for row in maker.rows if row[0] != "deed"]
        if len(told) <= 40:
            random.shuffle(told)
            return maker, Lore(told), SlowLore(told)


class ByGivenOnes(Trees):
    def tree(self, needs, cls, kind, tree):
        kept = list(needs)
        self.assertEqual(tree_by(self.lore, needs, cls, kind), tree)
        self.assertEqual(needs, kept)

    def test_none_given(self):
        self.tree([], "base", 0, None)
        self.tree([None], "base", 0, None)
        self.tree([None, None, None], "base", 1, None)
        self.tree([], "base", ("list", 0), None)
        self.tree([], "base", ("list", WHOLE), house(12, house(10)))

    def test_the_class_itself(self):
        self.tree([("base", 0)], "base", 0, given(0))
        self.tree([("roof", 7)], "roof", 7, given(0))
        self.tree([("lone", 2), ("base", 3)], "base", 3, given(1))

    def test_none_counts_in_the_numbering(self):
        self.tree([None, ("base", 1)], "base", 1, given(1))
        self.tree([None, None, ("left", 0), None, ("base", 1)], "base", 1, given(4))
        self.tree([None, None, ("left", 0), None, ("base", 1)], "base", 0, elder("base", given(2)))

    def test_one_step_of_elders(self):
        self.tree([("left", 0)], "base", 0, elder("base", given(0)))
        self.tree([("top", 0)], "left", 0, elder("left", given(0)))
        self.tree([("top", 0)], "right", 0, elder("right", given(0)))
        self.tree([("roof", 0)], "top", 0, elder("top", given(0)))

    def test_two_steps_by_the_first_elder_that_serves(self):
        self.tree([("top", 0)], "base", 0, elder("base", elder("right", given(0))))
        self.tree([("roof", 0)], "left", 0, elder("left", elder("top", given(0))))
        self.tree([("roof", 0)], "right", 0, elder("right", elder("top", given(0))))

    def test_three_steps_though_a_shorter_road_is_told_behind(self):
        self.tree([("roof", 0)], "base", 0, elder("base", elder("right", elder("top", given(0)))))

    def test_the_order_of_elders_and_not_of_rows(self):
        for elders, first in [(("a", "b"), "a"), (("b", "a"), "b")]:
            lore = Lore([("class", "end", ()), ("class", "a", ("end",)), ("class", "b", ("end",)),
                         ("class", "c", elders)])
            self.assertEqual(tree_by(lore, [("c", 0)], "end", 0), elder("end", elder(first, given(0))))

    def test_a_short_road_told_ahead(self):
        lore = Lore([("class", "end", ()), ("class", "a", ("end",)), ("class", "c", ("end", "a"))])
        self.assertEqual(tree_by(lore, [("c", 0)], "end", 0), elder("end", given(0)))

    def test_an_elder_that_does_not_lead_there_is_passed_by(self):
        lore = Lore([("class", "end", ()), ("class", "a", ()), ("class", "b", ("a", "end")),
                     ("class", "c", ("a", "b"))])
        self.assertEqual(tree_by(lore, [("c", 0)], "end", 0), elder("end", elder("b", given(0))))

    def test_the_first_given_one_that_serves_counts(self):
        """By place: be it by an elder, where a later one would be of the class itself, or the other way round."""
        self.tree([("left", 0), ("base", 0)], "base", 0, elder("base", given(0)))
        self.tree([("base", 0), ("left", 0)], "base", 0, given(0))
        self.tree([("lone", 0), ("left", 0), ("right", 0)], "base", 0, elder("base", given(1)))
        self.tree([("lone", 0), ("right", 0), ("left", 0)], "base", 0, elder("base", given(1)))
        self.tree([("base", 0), ("base", 0)], "base", 0, given(0))
        self.tree([("roof", 0), ("right", 0)], "right", 0, elder("right", elder("top", given(0))))

    def test_given_ones_that_do_not_serve(self):
        self.tree([("base", 0)], "left", 0, None)
        self.tree([("left", 0), ("right", 0)], "top", 0, None)
        self.tree([("lone", 0)], "base", 0, None)
        self.tree([("left", 0), ("base", 0), ("right", 0)], "right", 0, given(2))

    def test_given_ones_at_other_open_kinds(self):
        self.tree([("base", 0)], "base", 1, None)
        self.tree([("base", 1), ("left", 2), ("base", 0)], "base", 0, given(2))
        self.tree([("base", 1), ("left", 2), ("base", 0)], "base", 2, elder("base", given(1)))
        self.tree([("base", 10)], "base", 1, None)

    def test_houses_with_given_ones_at_their_parts(self):
        needs = [("top", 0), None, ("lone", 1)]
        self.tree(needs, "base", ("list", 0), house(12, elder("base", elder("right", given(0)))))
        self.tree(needs, "top", ("list", ("list", 0)), house(22, house(22, given(0))))
        self.tree(needs, "left", ("pair", 0, 1), house(17, elder("left", given(0)), given(2)))
        self.tree(needs, "base", ("trio", 5, 1, ("pair", 0, 9)), house(
            14, None, given(2), house(13, elder("base", elder("right", given(0))), None)))
        self.tree(needs, "left", ("pair", WHOLE, 1), house(17, house(15), given(2)))

    def test_a_made_kind_goes_by_its_house_whatever_is_given(self):
        self.tree([("roof", 0), ("base", 1)], "base", WHOLE, house(10))
        self.tree([("base", 0)], "base", UNIT, None)

    def test_no_tree_where_a_part_has_none(self):
        needs = [("left", 0), ("lone", 1)]
        for cls, kind in [("right", ("list", 0)), ("base", ("list", 1)), ("left", ("pair", 1, 1)),
                          ("left", ("pair", 0, 0)), ("base", ("trio", 0, 0, 0)), ("base", ("trio", 1, 1, 1)),
                          ("base", ("list", 2)), ("base", ("list", ("list", UNIT))), ("top", ("pair", 0, 1))]:
            self.tree(needs, cls, kind, None)

    def test_kinds_of_size_60(self):
        tree = elder("base", given(1))
        for step in range(59):
            tree = house(12, tree)
        self.tree([None, ("left", 4)], "base", listed(4, 59), tree)

    def test_against_another_way(self):
        random = chance(131)
        told = 0
        for step in range(150):
            maker, lore, slow = some_houses(random)
            for again in range(30):
                needs = some_given(random, maker)
                cls = maker.some(maker.elders)
                kind = maker.some_kind(random.randrange(3), (0, 1, 2))
                tree = tree_by(lore, needs, cls, kind)
                self.assertEqual(tree, slow.tree(needs, cls, kind))
                told += "elder" in repr(tree)
        self.assertGreater(told, 100)


def some_given(random, maker):
    return [random.choice([None, (maker.some(maker.elders), random.randrange(3))])
            for need in range(random.randrange(6))]


class OfElders(Trees):
    def test_each_house_and_each_elder(self):
        top_base = elder("base", elder("right", given(0)))
        trees = {
            (15, "base"): house(10), (16, "base"): house(12, given(0)),
            (17, "base"): house(13, elder("base", given(0)), None),
            (18, "base"): house(10), (19, "base"): house(12, elder("base", given(0))),
            (20, "base"): house(13, given(0), None),
            (21, "left"): house(15), (21, "right"): house(18),
            (22, "left"): house(16, top_base), (22, "right"): house(19, elder("right", given(0))),
            (23, "top"): house(21), (23, "base"): house(10),
            (24, "top"): house(22, elder("top", given(0))),
            (24, "base"): house(12, elder("base", elder("right", elder("top", given(0))))),
        }
        told = {}
        for number, row in enumerate(rows()):
            if row[0] == "house":
                for cls in self.lore.elders_of(row[1]):
                    told[number, cls] = elder_tree(self.lore, number, cls)
        self.assertEqual(told, trees)

    def test_needs_at_the_second_and_third_part(self):
        lore = Lore([
            ("kind", "trio", 3, (("Trio", (0, 1, 2)),)), ("class", "a", ()), ("class", "b", ("a",)),
            ("house", "a", "trio", (None, "a", "b")), ("house", "b", "trio", ("a", "b", "b")),
        ])
        self.assertEqual(elder_tree(lore, 4, "a"), house(3, None, elder("a", given(1)), given(2)))

    def test_against_another_way(self):
        random = chance(141)
        for step in range(150):
            maker, lore, slow = some_houses(random)
            for (cls, kind), (row, needs) in slow.houses.items():
                own = [need and (need, part) for part, need in enumerate(needs)]
                for above in slow.elders[cls]:
                    tree = elder_tree(lore, row, above)
                    self.assertEqual(tree, slow.tree(own, above, (kind, 0, 1, 2)[:1 + len(needs)]))
                    self.assertIsNotNone(tree)


class Closed(Trees):
    def closed(self, tree, trees, told):
        for handed_in in [list(trees), tuple(trees)]:
            self.assertEqual(closed(self.lore, tree, handed_in), told)
            self.assertEqual(list(handed_in), list(trees))

    def test_given_ones(self):
        self.closed(given(0), [house(10)], house(10))
        self.closed(given(2), [None, house(10), house(12, house(10))], house(12, house(10)))

    def test_a_closed_tree_stays(self):
        for tree in [house(10), house(13, house(10), None), house(14, None, house(25), house(12, house(10)))]:
            self.closed(tree, [], tree)
            self.closed(tree, [None, house(11)], tree)

    def test_given_ones_within_houses(self):
        self.closed(house(12, given(0)), [house(11)], house(12, house(11)))
        self.closed(
            house(14, None, given(1), house(12, given(2))), [None, house(25), house(10)],
            house(14, None, house(25), house(12, house(10))))
        self.closed(house(20, given(0), given(0)), [house(10)], house(20, house(10), house(10)))

    def test_an_elder_of_a_house_without_parts(self):
        self.closed(elder("base", house(15)), [], house(10))
        self.closed(elder("base", given(0)), [house(18)], house(10))

    def test_an_elder_of_a_house_with_parts(self):
        self.closed(elder("base", house(16, house(10))), [], house(12, house(10)))
        self.closed(elder("base", given(1)), [None, house(17, house(15), house(25))], house(13, house(10), None))
        self.closed(elder("base", house(20, given(0), given(1))), [house(11), house(18)], house(13, house(11), None))
        self.closed(elder("right", given(0)), [house(22, house(22, house(21)))], house(19, house(19, house(18))))

    def test_elders_of_elders(self):
        road = elder("base", elder("right", elder("top", given(0))))
        self.closed(road, [house(23)], house(10))
        self.closed(road, [house(24, house(24, house(23)))], house(12, house(12, house(10))))
        self.closed(elder("base", elder("left", given(0))), [house(22, house(21))], house(12, house(10)))

    def test_elders_within_houses(self):
        self.closed(house(12, elder("base", given(0))), [house(16, house(10))], house(12, house(12, house(10))))
        self.closed(
            house(17, elder("left", given(0)), given(1)), [house(22, house(21)), house(27, None)],
            house(17, house(16, house(10)), house(27, None)))

    def test_elders_deep_down(self):
        """Sixty deep, each house's elder being sought by elders of what its own house needs."""
        self.closed(elder("base", elder("right", given(0))), [tree_of(self.lore, "top", listed(WHOLE, 59))],
                    tree_of(self.lore, "base", listed(WHOLE, 59)))

    def test_a_long_row_of_elders_deep_down(self):
        """Were each step gone through anew for each one above it, this would not come to an end."""
        names = ["a", "b", "c", "d", "e", "f", "g", "h", "i", "j", "k", "l"]
        told = [("kind", "list", 1, (("End", ()),))]
        for place, name in enumerate(names):
            told += [("class", name, tuple(names[max(0, place - 1):place])),
                     ("house", name, "list", (name,)), ("house", name, "whole", ())]
        lore = Lore(told)
        tree = given(0)
        for name in reversed(names[:-1]):
            tree = elder(name, tree)
        self.assertEqual(closed(lore, tree, [tree_of(lore, "l", listed(WHOLE, 59))]),
                         tree_of(lore, "a", listed(WHOLE, 59)))

    def test_each_comes_to_the_tree_of_its_class_at_the_closed_kind(self):
        random = chance(142)
        told = 0
        for step in range(600):
            maker, lore, slow = some_houses(random)
            for again in range(30):
                needs = some_given(random, maker)
                cls = maker.some(maker.elders)
                kind = maker.some_kind(random.randrange(3), (0, 1, 2))
                tree = tree_by(lore, needs, cls, kind)
                places = {number: maker.some_kind(random.randrange(3)) for number in range(3)}
                trees = [need and slow.tree([], need[0], places[need[1]]) for need in needs]
                if tree is None or any(need and not one for need, one in zip(needs, trees)):
                    continue
                self.assertEqual(closed(lore, tree, trees), slow.tree([], cls, changed(kind, places)))
                told += "elder" in repr(tree)
        self.assertGreater(told, 100)

    def test_each_elder_tree_comes_to_the_elders_tree(self):
        random = chance(143)
        told = 0
        for step in range(200):
            maker, lore, slow = some_houses(random)
            for (cls, kind), (row, needs) in slow.houses.items():
                parts = [maker.some_kind(1) for need in needs]
                tree = slow.tree([], cls, (kind, *parts))
                for above in slow.elders[cls] if tree else ():
                    self.assertEqual(closed(lore, elder_tree(lore, row, above), tree[2]),
                                     slow.tree([], above, (kind, *parts)))
                    told += 1
        self.assertGreater(told, 100)


class NothingChanged(Trees):
    def test_lists_and_the_lore_stay(self):
        needs = [("roof", 0), None, ("lone", 1)]
        trees = [tree_of(self.lore, "roof", ("list", WHOLE)), None, house(25)]
        tree = tree_by(self.lore, needs, "left", ("pair", 0, 1))
        told = closed(self.lore, tree, trees)
        self.assertEqual(needs, [("roof", 0), None, ("lone", 1)])
        self.assertEqual(trees, [tree_of(self.lore, "roof", ("list", WHOLE)), None, house(25)])
        self.assertEqual(self.lore.rows(), rows())
        needs.clear()
        trees.clear()
        self.assertEqual(tree, house(17, elder("left", elder("top", given(0))), given(2)))
        self.assertEqual(told, house(17, house(16, house(10)), house(25)))


if __name__ == "__main__":
    unittest.main()
