"""Points 2, 3 (b) and 6: kinddeeds.fitting."""

import itertools
import unittest

from kinddeeds.errors import TooGreat
from kinddeeds.fitting import fitted
from kinddeeds.kinds import put
from samples import bushy, chain, chance, changed, opens, size, slowly_fitted, some_closed_kind, some_kind

WHOLE = ("whole",)
TRUTH = ("truth",)


def turned(pairs):
    return [(other, one) for one, other in pairs]


def orders(pairs):
    """The same pairs in order, from the last one on, and from the middle; each also the other way about."""
    middle = len(pairs) // 2
    for told in [pairs, pairs[::-1], pairs[middle:] + pairs[:middle], pairs[::2] + pairs[1::2]]:
        yield list(told)
        yield turned(told)
        yield [pair if place % 2 else pair[::-1] for place, pair in enumerate(told)]


class Fitting(unittest.TestCase):
    def told(self, pairs, places):
        for order in orders(pairs):
            self.assertEqual(fitted(order), places, order)

    def unfit(self, pairs):
        for order in orders(pairs):
            self.assertIsNone(fitted(order), order)

    def too_great(self, pairs):
        for order in orders(pairs):
            with self.assertRaises(TooGreat) as taken:
                fitted(order)
            self.assertIsNone(taken.exception.place)

    def holds(self, pairs, places):
        """What 6 says of a putting that is told, apart from its being the widest."""
        within = set()
        for one, other in pairs:
            within |= opens(one) | opens(other)
            self.assertEqual(put(one, places), put(other, places))
        for kind in places:
            self.assertIn(kind, within)
            self.assertNotEqual(places[kind], kind)
            self.assertFalse(opens(places[kind]) & set(places))
            self.assertLessEqual(size(places[kind]), 60)
            if isinstance(places[kind], int):
                self.assertLess(places[kind], kind)


class Fits(Fitting):
    def test_no_pairs(self):
        self.assertEqual(fitted([]), {})

    def test_one_kind_and_itself(self):
        kinds = [0, 7, WHOLE, ("list", 0), ("pair", 0, 0), ("three", 0, ("list", 1), WHOLE)]
        for kind in kinds + [chain(100), chain(100, 3), bushy(100)]:
            self.told([(kind, kind)], {})
            self.told([(kind, kind)] * 3, {})

    def test_an_open_one_and_a_made_one(self):
        self.told([(0, WHOLE)], {0: WHOLE})
        self.told([(5, ("list", 2))], {5: ("list", 2)})
        self.told([(0, ("pair", 1, 1))], {0: ("pair", 1, 1)})

    def test_what_is_not_changed_is_not_there(self):
        self.told([(("pair", 0, 1), ("pair", WHOLE, 1))], {0: WHOLE})
        self.told([(("pair", 0, 1), ("pair", 0, 1)), (2, WHOLE)], {2: WHOLE})
        self.told([(0, ("list", 1)), (1, 1), (4, 4)], {0: ("list", 1)})

    def test_within(self):
        self.told([(("pair", 0, ("list", 1)), ("pair", TRUTH, ("list", WHOLE)))], {0: TRUTH, 1: WHOLE})
        self.told([(("pair", 0, WHOLE), ("pair", TRUTH, 1))], {0: TRUTH, 1: WHOLE})
        self.told([(("three", 0, 1, 2), ("three", 1, 2, WHOLE))], {0: WHOLE, 1: WHOLE, 2: WHOLE})

    def test_no_open_kind_of_the_dict_stands_in_it(self):
        self.told([(0, ("list", 1)), (1, WHOLE)], {0: ("list", WHOLE), 1: WHOLE})
        self.told([(2, ("list", 1)), (1, ("list", 0))], {2: ("list", ("list", 0)), 1: ("list", 0)})
        self.told([(0, ("pair", 1, 2)), (2, ("list", 1))], {0: ("pair", 1, ("list", 1)), 2: ("list", 1)})

    def test_the_least_of_those_that_stand_for_one_another(self):
        self.told([(0, 1)], {1: 0})
        self.told([(9, 4), (4, 7)], {9: 4, 7: 4})
        self.told([(9, 8), (7, 6), (8, 7)], {9: 6, 8: 6, 7: 6})
        self.told([(3, ("list", 9)), (9, 5)], {3: ("list", 5), 9: 5})
        self.told([(("pair", 8, 3), ("pair", 5, 8))], {8: 3, 5: 3})
        self.told([(2, 10 ** 40), (10 ** 40, 10 ** 39)], {10 ** 40: 2, 10 ** 39: 2})

    def test_two_rows_of_open_ones_made_one(self):
        self.told([(4, 5), (5, 6), (1, 2), (2, 3), (6, 3)], {2: 1, 3: 1, 4: 1, 5: 1, 6: 1})

    def test_open_ones_found_to_be_the_same_within_made_ones(self):
        self.told(
            [(9, ("pair", 7, 3)), (9, ("pair", 2, 8))],
            {9: ("pair", 2, 3), 7: 2, 8: 3},
        )
        self.told(
            [(5, ("list", 4)), (6, ("list", 3)), (5, 6)],
            {5: ("list", 3), 6: ("list", 3), 4: 3},
        )

    def test_all_of_a_group_stand_for_the_made_one(self):
        self.told([(3, 1), (1, 2), (2, ("list", 0))], {kind: ("list", 0) for kind in [1, 2, 3]})

    def test_one_pair_told_again(self):
        self.told([(0, ("list", 1)), (0, ("list", 1)), (("list", 1), 0)], {0: ("list", 1)})

    def test_closed_kinds(self):
        self.told([(bushy(100), bushy(100))], {})
        self.told([(WHOLE, WHOLE), (TRUTH, TRUTH)], {})

    def test_any_texts_as_names(self):
        self.told([(0, ("'0",)), (1, ("'1",))], {0: ("'0",), 1: ("'1",)})
        self.told([(0, ("",)), (("", 1), ("", ("0",)))], {0: ("",), 1: ("0",)})
        self.told([(("A b\n", 0, 1), ("A b\n", 1, ("~", 2)))], {0: ("~", 2), 1: ("~", 2)})
        self.unfit([(("'0",), ("'1",))])
        self.unfit([(("list", 0), ("List", 0))])
        self.unfit([(0, ("",)), (0, ("'0",))])

    def test_a_new_dict_each_time(self):
        pairs = [(0, ("list", 1)), (2, 1)]
        one = fitted(pairs)
        self.assertIs(type(one), dict)
        one[1] = WHOLE
        one.pop(0)
        self.assertEqual(fitted(pairs), {0: ("list", 1), 2: 1})
        none = fitted([])
        none[0] = 1
        self.assertEqual(fitted([]), {})

    def test_the_list_handed_in_stays_and_is_not_kept(self):
        pairs = [(0, ("list", 1)), (("pair", 2, 1), ("pair", WHOLE, 3)), (5, 4)]
        kept = list(pairs)
        told = fitted(pairs)
        self.assertEqual(pairs, kept)
        pairs.append((1, WHOLE))
        self.assertEqual(told, {0: ("list", 1), 2: WHOLE, 3: 1, 5: 4})
        self.assertEqual(fitted(pairs), {0: ("list", WHOLE), 1: WHOLE, 2: WHOLE, 3: WHOLE, 5: 4})
        for wrong in [[(0, WHOLE), (0, TRUTH)], [(0, chain(61))]]:
            kept = list(wrong)
            try:
                fitted(wrong)
            except TooGreat:
                pass
            self.assertEqual(wrong, kept)


class Unfit(Fitting):
    def test_other_names(self):
        self.unfit([(WHOLE, TRUTH)])
        self.unfit([(("list", 0), ("tree", 0))])
        self.unfit([(("list", ("list", WHOLE)), ("list", ("list", TRUTH)))])
        self.unfit([(("pair", 0, ("list", 1)), ("pair", 0, ("tree", 1)))])

    def test_other_numbers_of_parts(self):
        self.unfit([(("a",), ("a", 0))])
        self.unfit([(("a", 0), ("a", 0, 0))])
        self.unfit([(("a", 0, 1, 2), ("a", 0, 1))])
        self.unfit([(("list", ("a", 0)), ("list", ("a", 0, 1)))])
        self.unfit([(("pair", ("a",), 0), ("pair", ("a", 1), 0))])

    def test_by_way_of_open_ones(self):
        self.unfit([(0, WHOLE), (0, TRUTH)])
        self.unfit([(0, WHOLE), (1, TRUTH), (0, 1)])
        self.unfit([(0, 1), (1, 2), (2, 3), (0, ("list", 4)), (3, ("list", 5)), (4, WHOLE), (5, TRUTH)])
        self.unfit([(("pair", 0, 0), ("pair", WHOLE, TRUTH))])
        self.unfit([(("three", 0, 1, 0), ("three", 1, ("a", 2), ("a", 2, 2)))])
        self.unfit([(0, ("a",)), (0, ("a", 1))])

    def test_an_open_one_in_its_own_kind(self):
        self.unfit([(0, ("list", 0))])
        self.unfit([(0, ("pair", WHOLE, ("list", ("list", 0))))])
        self.unfit([(("pair", 0, 0), ("pair", 1, ("list", 1)))])
        self.unfit([(("list", 0), ("list", ("list", 0)))])

    def test_an_open_one_in_its_own_kind_by_way_of_others(self):
        self.unfit([(0, ("list", 1)), (1, ("list", 0))])
        self.unfit([(0, ("list", 1)), (1, 0)])
        self.unfit([(0, ("pair", 1, 2)), (1, WHOLE), (2, ("list", 3)), (3, 4), (4, ("list", 0))])
        self.unfit([(("pair", 0, 1), ("pair", ("list", 1), ("list", 0)))])
        self.unfit([(0, 1), (2, 3), (0, ("list", 2)), (3, ("list", 1))])

    def test_a_ring_apart_from_the_rest(self):
        self.unfit([(5, WHOLE), (6, ("list", 5)), (0, ("list", 1)), (1, ("list", 0))])

    def test_the_same_kind_standing_twice_is_no_ring(self):
        twice = ("pair", 2, 2)
        self.told([(0, ("pair", 1, 1)), (1, twice)], {1: twice, 0: ("pair", twice, twice)})
        self.told([(0, 1), (1, 0)], {1: 0})


class Great(Fitting):
    def test_sizes_of_60_and_61(self):
        for end in [("z",), 7]:
            self.told([(0, chain(60, end))], {0: chain(60, end)})
            self.too_great([(0, chain(61, end))])
        self.told([(0, bushy(60))], {0: bushy(60)})
        self.too_great([(0, bushy(61))])
        self.too_great([(0, chain(100))])
        self.too_great([(("list", 0), ("list", chain(61)))])

    def test_great_by_what_is_put_within(self):
        self.told([(0, chain(31, 1)), (1, chain(30))], {0: chain(60), 1: chain(30)})
        self.too_great([(0, chain(31, 1)), (1, chain(31))])
        self.told([(0, ("pair", 1, 1)), (1, chain(29, 2))], {0: ("pair", chain(29, 2), chain(29, 2)), 1: chain(29, 2)})
        self.too_great([(0, ("pair", 1, 1)), (1, chain(30, 2))])

    def test_great_in_one_of_several(self):
        self.too_great([(0, WHOLE), (1, chain(61)), (2, TRUTH)])

    def test_one_that_goes_by_an_open_one(self):
        self.too_great([(5, 3), (3, 4), (4, chain(61))])

    def test_what_is_not_put_may_be_greater(self):
        for many in [61, 62, 100]:
            self.told([(chain(many), chain(many))], {})
            self.told([(chain(many, 0), chain(many, 0))], {})
            self.told([(chain(many, 0), chain(many, 1))], {1: 0})
            self.told([(chain(many, 0), chain(many, WHOLE))], {0: WHOLE})
            self.told([(bushy(many), bushy(many)), (0, chain(60))], {0: chain(60)})
        self.told([(chain(100, 0), chain(100, chain(60)))], {0: chain(60)})
        self.too_great([(chain(100, 0), chain(100, chain(61)))])

    def test_no_fit_goes_ahead_of_too_great(self):
        self.unfit([(0, chain(61)), (1, WHOLE), (1, TRUTH)])
        self.unfit([(0, chain(61)), (0, chain(62))])
        self.unfit([(0, chain(100)), (1, ("list", 1))])
        self.unfit([(0, chain(61, 1)), (1, ("list", 2)), (2, ("list", 0))])
        self.unfit([(0, chain(61, 0))])
        self.unfit([(0, chain(61)), (1, ("list", 2)), (2, ("list", 1))])


def row(many, step, end=None):
    """Each open kind stands for a kind of the next one, as step builds it."""
    pairs = [(kind, step(kind + 1)) for kind in range(many)]
    return pairs if end is None else pairs + [(many, end)]


def single(kind):
    return ("a", kind)


def double(kind):
    return ("b", kind, kind)


def treble(kind):
    return ("c", kind, kind, kind)


class LongRows(Fitting):
    def test_just_as_great_as_may_be(self):
        self.told(row(59, single), {kind: chain(60 - kind, 59) for kind in range(59)})
        self.told(row(59, single, WHOLE), {kind: chain(60 - kind, WHOLE) for kind in range(60)})
        self.too_great(row(60, single))
        self.too_great(row(60, single, WHOLE))
        self.assertEqual(size(fitted(row(4, double))[0]), 31)
        self.too_great(row(5, double))

    def test_of_400_pairs(self):
        for step in [single, double, treble, lambda kind: ("d", kind, WHOLE, 500)]:
            self.too_great(row(400, step))
            self.too_great(row(399, step, WHOLE))

    def test_of_400_pairs_in_a_ring(self):
        for step in [single, double, treble]:
            self.unfit(row(399, step, step(0)))
            self.unfit(row(399, step, step(200)))
            self.unfit(row(399, step, 0))

    def test_of_400_pairs_with_a_fault_at_the_end(self):
        for step in [single, double, treble]:
            self.unfit(row(398, step) + [(398, WHOLE), (398, TRUTH)])
            self.unfit(row(398, step) + [(0, WHOLE)])

    def test_two_rows_side_by_side(self):
        for step in [single, double, treble]:
            pairs = row(199, step) + [(kind + 1000, step(kind + 1001)) for kind in range(199)] + [(0, 1000)]
            self.too_great(pairs)
            self.unfit(pairs + [(199, ("x",)), (1199, ("y",))])
            self.unfit(pairs + [(199, step(1198))])

    def test_of_open_ones_alone(self):
        self.told(row(400, lambda kind: kind), {kind: 0 for kind in range(1, 401)})
        self.told(row(399, lambda kind: kind, WHOLE), {kind: WHOLE for kind in range(400)})
        self.told([(kind, 400) for kind in range(400)], {kind: 0 for kind in range(1, 401)})

    def test_doubling_on_both_sides_of_one_pair(self):
        """The kinds that are put double at each step; both sides are walked without being built."""
        pairs = []
        for kind in range(100):
            pairs.append((kind, double(kind + 1)))
            pairs.append((1000 + kind, double(1001 + kind)))
        self.too_great(pairs + [(0, 1000)])
        self.unfit(pairs + [(0, 1000), (100, WHOLE), (1100, TRUTH)])

    def test_400_pairs_of_great_kinds(self):
        pairs = [(chain(100, kind), chain(100, kind + 1)) for kind in range(400)]
        self.told(pairs, {kind: 0 for kind in range(1, 401)})
        lines = [("c", kind, kind + 1, kind + 2) for kind in range(0, 27, 3)]
        great = ("c", ("c",) + tuple(lines[:3]), ("c",) + tuple(lines[3:6]), ("c",) + tuple(lines[6:]))
        pairs = [(changed(great, {kind: kind + 30 * step for kind in range(27)}), great) for step in range(400)]
        self.told(pairs, {kind + 30 * step: kind for kind in range(27) for step in range(1, 400)})

    def test_somewhat_more_than_the_bounds(self):
        self.told([(kind, kind + 1) for kind in range(500)], {kind: 0 for kind in range(1, 501)})
        self.told([(chain(130, 0), chain(130, 1))], {1: 0})


class Widest(Fitting):
    def test_small_kinds_all_against_all(self):
        small = [0, 1, 2, ("p",), ("q",)]
        kinds = small + [("p", part) for part in small] + [("q", a, b) for a in small[:4] for b in small[:4]]
        for one, other in itertools.product(kinds, kinds):
            told = fitted([(one, other)])
            self.assertEqual(told, slowly_fitted([(one, other)]), (one, other))
            self.assertEqual(told, fitted([(other, one)]))
            if told is not None:
                self.holds([(one, other)], told)

    def tangled(self, random):
        """Pairs of which many do not fit."""
        many = 1 + random.randrange(8)
        pairs = [(random.randrange(many), some_kind(random, 3, many)) for pair in range(random.randrange(5))]
        return pairs + [(some_kind(random, 2, many), some_kind(random, 3, many)) for pair in range(random.randrange(3))]

    def layered(self, random):
        """Pairs of which most fit, some with great kinds: each open kind stands for a kind of later ones."""
        pairs = []
        for kind in range(2 + random.randrange(5)):
            later = some_kind(random, 3, 3)
            pairs.append((kind, changed(later, {0: kind + 1, 1: kind + 2, 2: kind + 3})))
        return pairs

    def test_against_another_way(self):
        random = chance(6)
        seen = {"fit": 0, "none": 0, "great": 0}
        for step in range(4000):
            pairs = self.layered(random) if step % 2 else self.tangled(random)
            # Numbers are mixed up, so that the least open kind is not the first one told.
            numbers = dict(enumerate(random.sample(range(40), 12)))
            pairs = [(changed(one, numbers), changed(other, numbers)) for one, other in pairs]
            random.shuffle(pairs)
            asked = slowly_fitted(pairs)
            if asked is not None and any(size(kind) > 60 for kind in asked.values()):
                seen["great"] += 1
                self.too_great(pairs)
                continue
            seen["none" if asked is None else "fit"] += 1
            self.told(pairs, asked)
            if asked is not None:
                self.holds(pairs, asked)
        # A test of the sample: each of the three answers must be asked for often enough.
        self.assertGreater(min(seen.values()), 50, seen)

    def hidden(self, random, kind, places):
        """A kind that comes to this closed one by places."""
        alike = [key for key in places if places[key] == kind]
        if alike and random.randrange(3):
            return random.choice(alike)
        return (kind[0],) + tuple(self.hidden(random, part, places) for part in kind[1:])

    def test_whatever_fits_comes_of_what_is_told(self):
        random = chance(3)
        for step in range(3000):
            kinds = [some_closed_kind(random, 2) for kind in range(3)]
            places = {key: random.choice(kinds) for key in random.sample(range(20), 8)}
            pairs = []
            for pair in range(1 + random.randrange(4)):
                kind = ("t", random.choice(kinds), random.choice(kinds), random.choice(kinds))
                pairs.append((self.hidden(random, kind, places), self.hidden(random, kind, places)))
            told = fitted(pairs)
            self.assertIsNotNone(told)
            self.holds(pairs, told)
            for key in places:
                self.assertEqual(put(put(key, told), places), places[key])


if __name__ == "__main__":
    unittest.main()
