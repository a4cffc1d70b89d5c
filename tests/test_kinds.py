"""Points 2, 4 and 5: kinddeeds.kinds."""

import unittest

from kinddeeds.kinds import is_kind, is_name, opens_of, put, size_of
from samples import (
    TextOfItsOwn, bushy, chain, chance, changed, neither_name_nor_kind, opens, size, some_kind,
)


class Names(unittest.TestCase):
    def test_one_to_eight_letters(self):
        for name in ["a", "z", "m", "ab", "whole", "abcdefgh", "zzzzzzzz", "aaaaaaaa"]:
            self.assertIs(is_name(name), True, name)

    def test_each_letter_from_a_to_z(self):
        for letter in "abcdefghijklmnopqrstuvwxyz":
            self.assertIs(is_name(letter), True, letter)
            self.assertIs(is_name("x" + letter), True, letter)

    def test_none_and_nine_letters(self):
        for name in ["", "abcdefghi", "aaaaaaaaa", "a" * 16, "a" * 1000000]:
            self.assertIs(is_name(name), False)

    def test_all_other_signs(self):
        others = [chr(code) for code in range(0x250) if not "a" <= chr(code) <= "z"]
        others += ["\ud800", "\U0001d41a", "\uff41", "\u0430"]
        for sign in others:
            for name in [sign, sign + "a", "a" + sign, "a" + sign + "b", sign * 8]:
                self.assertIs(is_name(name), False, repr(name))

    def test_what_is_no_text(self):
        for thing in neither_name_nor_kind() + [0, 1, 7, ("a",), ("whole",), ("a", 0)]:
            self.assertIs(is_name(thing), False)

    def test_a_text_of_a_class_of_its_own(self):
        self.assertIs(is_name(TextOfItsOwn("whole")), True)
        self.assertIs(is_name(TextOfItsOwn("Whole")), False)


class IsKind(unittest.TestCase):
    def test_open_ones(self):
        for kind in [0, 1, 2, 24, 25, 100, 10 ** 60, 10 ** 6000]:
            self.assertIs(is_kind(kind), True)

    def test_numbers_below_nought_and_truths(self):
        for thing in [-1, -7, -10 ** 6000, True, False]:
            self.assertIs(is_kind(thing), False)

    def test_none_to_three_parts(self):
        for kind in [("a",), ("whole",), ("list", 0), ("pair", 0, 1), ("pair", 0, 0), ("three", 0, ("a",), 5)]:
            self.assertIs(is_kind(kind), True, kind)

    def test_four_parts_and_more(self):
        for many in [4, 5, 23, 24, 100000]:
            self.assertIs(is_kind(("a",) + (0,) * many), False)
            self.assertIs(is_kind(("b", ("a",) + (0,) * many)), False)

    def test_names_of_made_ones(self):
        for name in ["", "abcdefghi", "Whole", "a1", "'0", "a b", " a", "a\n", "\xe4", b"a", 0, None, True]:
            self.assertIs(is_kind((name,)), False, name)
            self.assertIs(is_kind((name, 0)), False, name)
            self.assertIs(is_kind(("a", (name,))), False, name)
        self.assertIs(is_kind(("abcdefgh", ("z",))), True)

    def test_things_of_all_kinds(self):
        for thing in neither_name_nor_kind() + ["a", "whole", "", "0"]:
            self.assertIs(is_kind(thing), False)

    def test_no_kind_at_any_place_within(self):
        for thing in neither_name_nor_kind() + ["a", "whole", ["a", 0], [0]]:
            for outer in [
                ("a", thing), ("a", thing, 0, 0), ("a", 0, thing, 0), ("a", 0, 0, thing),
                ("a", ("b", 0, ("c", thing))), ("a", ("b", ("c", thing, 0)), 1), ("a", 0, ("b", 1, 2, ("c", 3, thing))),
            ]:
                self.assertIs(is_kind(outer), False)

    def test_lists_in_the_place_of_tuples(self):
        for thing in [["a"], ["pair", 0, 1], ("a", ["b"]), ["a", ("b",)], ("a", 0, ["b", 1])]:
            self.assertIs(is_kind(thing), False)

    def test_size_of_24_and_of_25(self):
        for build in [chain, bushy, lambda many: chain(many, 0)]:
            for many in range(1, 25):
                self.assertIs(is_kind(build(many)), True, many)
            for many in range(25, 60):
                self.assertIs(is_kind(build(many)), False, many)

    def test_size_counts_open_ones_each_time_they_stand(self):
        seven = ("a", ("b", 0, 0), ("b", 0, 0))
        self.assertIs(is_kind(("a", seven, seven, ("a", ("a", seven)))), True)
        self.assertIs(is_kind(("a", seven, seven, ("a", 0, ("a", seven)))), False)

    def test_nested_very_deep(self):
        self.assertIs(is_kind(chain(200000)), False)
        self.assertIs(is_kind(chain(200000, None)), False)
        deep = ()
        for step in range(200000):
            deep = (deep,)
        self.assertIs(is_kind(deep), False)
        self.assertIs(is_name(deep), False)

    def test_one_tuple_standing_many_times_over(self):
        kind = 0
        for step in range(500):
            kind = ("a", kind, kind, kind)
        self.assertIs(is_kind(kind), False)
        wrong = None
        for step in range(500):
            wrong = ("a", 0, wrong, wrong)
        self.assertIs(is_kind(wrong), False)
        pair = ("pair", ("whole",), ("whole",))
        self.assertIs(is_kind(("three", pair, pair, ("pair", pair, pair))), True)

    def test_nothing_handed_in_is_changed(self):
        inner = ["a", {0: [1]}]
        is_kind(("a", inner))
        is_kind(inner)
        is_name(inner)
        self.assertEqual(inner, ["a", {0: [1]}])


class Sizes(unittest.TestCase):
    def test_of_single_ones(self):
        for kind in [0, 7, 10 ** 60, ("whole",)]:
            self.assertEqual(size_of(kind), 1)

    def test_of_made_ones(self):
        self.assertEqual(size_of(("list", 0)), 2)
        self.assertEqual(size_of(("pair", 3, 3)), 3)
        self.assertEqual(size_of(("three", 0, ("list", ("whole",)), ("pair", 1, ("b",)))), 7)

    def test_up_to_200_and_somewhat_beyond(self):
        for many in list(range(1, 201)) + [250, 400]:
            self.assertEqual(size_of(chain(many)), many)
            self.assertEqual(size_of(chain(many, 5)), many)
            self.assertEqual(size_of(bushy(many)), many)

    def test_is_a_whole_number(self):
        self.assertIs(type(size_of(("pair", 0, 1))), int)


class Opens(unittest.TestCase):
    def test_of_single_ones(self):
        self.assertEqual(opens_of(0), [0])
        self.assertEqual(opens_of(10 ** 60), [10 ** 60])
        self.assertEqual(opens_of(("whole",)), [])

    def test_each_once_in_the_order_in_which_they_stand(self):
        self.assertEqual(opens_of(("pair", 5, 2)), [5, 2])
        self.assertEqual(opens_of(("three", 2, 1, 2)), [2, 1])
        self.assertEqual(opens_of(("three", ("pair", 9, ("list", 4)), 9, ("pair", 0, 4))), [9, 4, 0])
        self.assertEqual(opens_of(("pair", ("list", ("list", 3)), 1)), [3, 1])
        self.assertEqual(opens_of(("pair", 1, ("list", ("list", 3)))), [1, 3])

    def test_closed_ones_have_none(self):
        self.assertEqual(opens_of(("pair", ("list", ("whole",)), ("truth",))), [])

    def test_up_to_a_size_of_200(self):
        self.assertEqual(opens_of(chain(200, 6)), [6])
        row = 199
        for kind in range(98, -1, -1):
            row = ("pair", kind, row)
        self.assertEqual(size_of(row), 199)
        self.assertEqual(opens_of(row), list(range(99)) + [199])
        row = 199
        for kind in range(98, -1, -1):
            row = ("pair", row, kind)
        self.assertEqual(opens_of(row), [199] + list(range(98, -1, -1)))

    def test_a_new_list_each_time(self):
        kind = ("pair", 1, 0)
        one = opens_of(kind)
        one.append(7)
        one[0] = 8
        self.assertEqual(opens_of(kind), [1, 0])
        self.assertEqual(one, [8, 0, 7])
        self.assertIs(type(one), list)
        empty = opens_of(("whole",))
        empty.append(3)
        self.assertEqual(opens_of(("whole",)), [])


class Put(unittest.TestCase):
    def test_in_the_place_of_open_ones(self):
        self.assertEqual(put(0, {0: ("whole",)}), ("whole",))
        self.assertEqual(put(("list", 0), {0: ("whole",)}), ("list", ("whole",)))
        self.assertEqual(put(("pair", 0, 0), {0: 4}), ("pair", 4, 4))
        self.assertEqual(
            put(("three", 0, ("list", 1), ("pair", 2, 0)), {0: ("a",), 1: ("b", 7), 2: 5}),
            ("three", ("a",), ("list", ("b", 7)), ("pair", 5, ("a",))),
        )

    def test_what_the_dict_does_not_have_stays(self):
        self.assertEqual(put(3, {}), 3)
        self.assertEqual(put(3, {0: ("a",)}), 3)
        self.assertEqual(put(("pair", 0, 1), {1: ("a",)}), ("pair", 0, ("a",)))
        self.assertEqual(put(("pair", ("a",), ("list", 2)), {0: 1}), ("pair", ("a",), ("list", 2)))
        self.assertEqual(put(("a",), {0: 1}), ("a",))

    def test_what_is_put_is_not_put_into_once_more(self):
        self.assertEqual(put(0, {0: 1, 1: ("a",)}), 1)
        self.assertEqual(put(0, {0: ("list", 0)}), ("list", 0))
        self.assertEqual(put(("pair", 0, 1), {0: ("list", 1), 1: ("list", 0)}), ("pair", ("list", 1), ("list", 0)))

    def test_open_ones_for_one_another(self):
        self.assertEqual(put(("pair", 0, 1), {0: 1, 1: 0}), ("pair", 1, 0))
        self.assertEqual(put(("pair", 1, 0), {0: 1, 1: 0}), ("pair", 0, 1))
        self.assertEqual(put(("three", 0, 1, 2), {0: 1, 1: 2, 2: 0}), ("three", 1, 2, 0))

    def test_an_open_one_for_itself(self):
        self.assertEqual(put(("pair", 0, 1), {0: 0, 1: 1}), ("pair", 0, 1))

    def test_what_is_handed_in_stays(self):
        kind = ("pair", 0, ("list", 1))
        places = {1: ("pair", 0, 0), 0: 1, 9: ("a",)}
        told = put(kind, places)
        self.assertEqual(list(places.items()), [(1, ("pair", 0, 0)), (0, 1), (9, ("a",))])
        self.assertEqual(kind, ("pair", 0, ("list", 1)))
        places[0] = ("b",)
        self.assertEqual(told, ("pair", 1, ("list", ("pair", 0, 0))))
        self.assertEqual(put(kind, places), ("pair", ("b",), ("list", ("pair", 0, 0))))

    def test_up_to_a_size_of_200(self):
        self.assertEqual(put(chain(200, 0), {0: ("z",)}), chain(200))
        self.assertEqual(size_of(put(chain(200, 0), {0: bushy(200)})), 399)
        self.assertEqual(put(bushy(200), {0: 1}), bushy(200))
        self.assertEqual(size_of(put(("three", 0, 0, 0), {0: chain(200)})), 601)

    def test_told_kinds_are_tuples_all_through(self):
        told = put(("pair", ("list", 0), 1), {0: ("a", 2)})
        for part in [told, told[1], told[1][1]]:
            self.assertIs(type(part), tuple)


class AgainstAnotherWay(unittest.TestCase):
    def test_many_kinds(self):
        random = chance(4)
        for step in range(2000):
            kind = some_kind(random, 4, 5)
            places = {key: some_kind(random, 2, 5) for key in random.sample(range(7), 3)}
            self.assertEqual(size_of(kind), size(kind))
            self.assertEqual(sorted(opens_of(kind)), sorted(opens(kind)))
            self.assertEqual(put(kind, places), changed(kind, places))
            self.assertIs(is_kind(kind), size(kind) <= 24)


if __name__ == "__main__":
    unittest.main()
