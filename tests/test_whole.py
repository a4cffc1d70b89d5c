"""Point 3 over whole programs, most of them made by chance with fixed seeds."""

import itertools
import subprocess
import sys
import tempfile
import unittest
from pathlib import Path

from chances import matched, some_program
from kinddeeds import errors
from kinddeeds.found import Found
from kinddeeds.making import made
from kinddeeds.notes import answers, show, show_value
from kinddeeds.pairs import pairs_of
from kinddeeds.reader import read_expression
from kinddeeds.runs import ByKinds, ByTables
from kinddeeds.trees import closed, tree_of
from programs import NO, ONE, WHOLE, X, call, case, form
from samples import chance, changed, slowly_fitted
from slowly import SlowFound, SlowRun


def fault_of(rows):
    """The name of the error's class and its place, or None."""
    try:
        Found(rows)
    except errors.DeedsError as error:
        return (type(error).__name__, error.place)
    return None


def good_programs(seed, many):
    """So many programs that are not refused, as Found and as SlowFound."""
    random = chance(seed)
    while many:
        rows = some_program(random, random.choice([0, 0, 1]))
        if fault_of(rows) is None:
            many -= 1
            yield random, Found(rows), SlowFound(rows)


def some_closed(random, slow, depth):
    names = [name for name, many in slow.lore.many.items() if depth or not many]
    name = random.choice(names)
    return (name,) + tuple(some_closed(random, slow, depth - 1) for part in range(slow.lore.many[name]))


class AgainstAnotherWay(unittest.TestCase):
    def test_refusals_and_all_that_is_told(self):
        random = chance(31)
        seen = {}
        for step in range(1800):
            rows = some_program(random, step % 3)
            kept = list(rows)
            slow = SlowFound(rows)
            self.assertEqual(fault_of(rows), slow.fault)
            self.assertEqual(rows, kept)
            sort = slow.fault and slow.fault[0]
            seen[sort] = seen.get(sort, 0) + 1
            if slow.fault is None:
                self.compare(Found(rows), slow)
        for sort in [None, "NoSuch", "Miscount", "Lacks", "Unfit", "Open", "NoHouse"]:
            self.assertGreater(seen[sort], 10, seen)

    def compare(self, found, slow):
        for name in slow.told:
            self.assertEqual(found.told(name), slow.told[name])
        for row, body in slow.bodies.items():
            for node in body.nodes:
                self.assertEqual(found.kind_at(row, node), body.kinds[node])
                self.assertEqual(found.puts_at(row, node), body.puts.get(node))
                self.assertEqual(found.trees_at(row, node), body.trees.get(node))


class KindsFitAndAreTheWidest(unittest.TestCase):
    RIGID = {0: ("'0",), 1: ("'1",), 2: ("'2",), 3: ("'3",), 4: ("'4",), 5: ("'5",)}

    def test_told_kinds_fit(self):
        """Their open kinds being read as kinds that are like no others."""
        for random, found, slow in good_programs(32, 200):
            for row, body in slow.bodies.items():
                pairs = [pair[1:] for pair in pairs_of(found.lore(), slow.told, row)]
                for node in body.nodes:
                    pairs.append((node, changed(found.kind_at(row, node), self.RIGID)))
                if body.body[0] == "def":
                    for place, param in enumerate(found.told(body.body[1])[0]):
                        pairs.append((50 + place, changed(param, self.RIGID)))
                self.assertIsNotNone(slowly_fitted(pairs))

    def test_whatever_fits_a_def_comes_of_its_told_kind(self):
        seen = [0, 0]
        for random, found, slow in good_programs(33, 300):
            for row, body in slow.bodies.items():
                if body.body[0] == "def":
                    for again in range(6):
                        seen[self.one_def(random, found, slow, row, again)] += 1
        self.assertGreater(min(seen), 200, seen)

    def one_def(self, random, found, slow, row, again):
        params, result, needs = found.told(slow.lore.rows[row][1])
        kinds = [changed(kind, {number: some_closed(random, slow, 1) for number in range(6)})
                 for kind in params + (result,)]
        if again % 2:
            places = {number: some_closed(random, slow, 1) for number in range(6)}
            kinds = [changed(kind, places) for kind in params + (result,)]
        pairs = [pair[1:] for pair in pairs_of(found.lore(), slow.told, row)]
        pairs += list(zip([50 + place for place in range(len(params))] + [1], kinds))
        places = {}
        fits = all(matched(kind, other, places) for kind, other in zip(params + (result,), kinds))
        self.assertEqual(slowly_fitted(pairs) is not None, fits)
        return fits


class TreesStandForTheOneTree(unittest.TestCase):
    def given_closed(self, random, found, slow, row):
        """Closed kinds for the open ones of a body, by chance, and the trees of its given needs at them."""
        body = slow.bodies[row]
        places = {number: some_closed(random, slow, 2) for number in range(6)}
        trees = [need and tree_of(found.lore(), need[0], places[need[1]]) for need in body.given]
        if any(need and not tree for need, tree in zip(body.given, trees)):
            return None
        return places, trees

    def test_closed_they_are_the_trees_of_closed_kinds(self):
        told = 0
        for random, found, slow in good_programs(34, 300):
            lore = found.lore()
            for row, body in slow.bodies.items():
                for again in range(3):
                    ends = self.given_closed(random, found, slow, row)
                    for node, puts, needs in body.needs() if ends else ():
                        own = body.functions[body.nodes[node][1]][2]
                        self.assertEqual(len(own), len(found.trees_at(row, node)))
                        for (cls, number), tree in zip(own, found.trees_at(row, node)):
                            kind = changed(found.puts_at(row, node)[number], ends[0])
                            self.assertEqual(closed(lore, tree, ends[1]), tree_of(lore, cls, kind))
                            told += "given" in repr(tree)
        self.assertGreater(told, 300)


def outcome(run, number):
    """What the ask comes to, or the error's name and its place."""
    try:
        return run.asked(number)
    except errors.DeedsError as error:
        return (type(error).__name__, error.place)


class BothRuns(unittest.TestCase):
    def test_the_same_value_in_the_same_number_of_steps_or_refused_alike(self):
        seen = {}
        for random, found, slow in good_programs(37, 700):
            by_kinds, by_tables, slowly = ByKinds(found), ByTables(made(found)), SlowRun(slow)
            asks = [row for row, body in slow.bodies.items() if body.body[0] == "ask"]
            for number, row in enumerate(asks):
                told = outcome(by_kinds, number)
                self.assertEqual(outcome(by_tables, number), told)
                self.assertEqual(slowly.ask(row), told)
                if isinstance(told[0], str):
                    seen[told[0]] = seen.get(told[0], 0) + 1
                else:
                    self.assertTrue(slowly.is_of(told[0], found.kind_at(row, 1)))
                    seen[told[1]] = seen.get(told[1], 0) + 1
        for sort in ["TooLong", 0, 1, 2, 3, 4, 5]:
            self.assertGreater(seen[sort], 5, seen)

    def test_text_to_answer_and_back(self):
        for random, found, slow in good_programs(38, 100):
            rows = found.lore().rows()
            run = ByTables(made(found))
            told = [outcome(run, number) for number in range(sum(row[0] == "ask" for row in rows))]
            if any(isinstance(value, str) for value, steps in told):
                with self.assertRaises(errors.DeedsError):
                    answers(show(rows))
                continue
            texts = answers(show(rows))
            self.assertEqual(texts, [show_value(value) for value, steps in told])
            again = [row for row in rows if row[0] != "ask"] + [("ask", read_expression(text)) for text in texts]
            self.assertEqual(answers(show(again)), texts)


class NothingElseCounts(unittest.TestCase):
    """[1]: the same in each run of Python, whatever the order of its sets and the folder it is started in."""

    CODE = """
import sys
sys.path[:0] = sys.argv[1:]
from chances import some_program
from kinddeeds.errors import DeedsError
from kinddeeds.found import Found
from kinddeeds.making import made
from kinddeeds.notes import answers, show
from samples import chance
random = chance(39)
for step in range(60):
    rows = some_program(random, step % 2)
    try:
        print(made(Found(rows)), answers(show(rows)))
    except DeedsError as error:
        print(type(error), error.place)
"""

    def test_in_several_runs_of_python(self):
        told = set()
        tests = Path(__file__).resolve().parent
        for seed in ["0", "1", "7"]:
            with tempfile.TemporaryDirectory() as folder:
                done = subprocess.run(
                    [sys.executable, "-c", self.CODE, str(tests), str(tests.parent)], cwd=folder, check=True, text=True,
                    capture_output=True, env={"PYTHONHASHSEED": seed, "PYTHONDONTWRITEBYTECODE": "1"})
                self.assertEqual(list(Path(folder).iterdir()), [])
            told.add(done.stdout)
        self.assertEqual(len(told), 1)
        self.assertGreater(len(told.pop()), 1000)


class TheFirstFault(unittest.TestCase):
    ROWS = [
        ("kind", "unit", 0, (("Unit", ()),)), ("class", "c", ()), ("class", "elder", ()), ("class", "heir", ("elder",)),
        ("class", "full", ()), ("deed", "d", "full", (0,), 0), ("deed", "e", "c", (0,), 0),
    ]
    # In the order of the looks; the last three in the order of the bodies.
    FAULTS = [
        ("NoProgram", ("ask",), 0),
        ("Twice", ("class", "c", ()), 0),
        ("NoSuch", ("class", "orphan", ("nothing",)), 0),
        ("Miscount", ("house", "elder", "truth", (None,)), 0),
        ("Ring", ("class", "ring", ("ring",)), 0),
        ("Open", ("deed", "o", "c", (), WHOLE), 0),
        ("Lacks", ("house", "full", "unit", ()), 0),
        ("NoHouse", ("house", "heir", "unit", ()), 0),
        ("NoHouse", ("def", "f", (), call("e", ONE)), 1),
        ("Unfit", ("once", "e", ("x",), ONE), 1),
        ("Miscount", ("ask", form("Unit", X)), 1),
    ]

    def expect(self, rows, faults):
        for error, row, node in self.FAULTS:
            if row in [fault[1] for fault in faults]:
                place = len(rows) - 1 - rows[::-1].index(row)
                return (error, (place, node))
        return None

    def test_each_choice_of_faults(self):
        random = chance(35)
        for many in range(len(self.FAULTS) + 1):
            for faults in itertools.combinations(self.FAULTS, many):
                rows = self.ROWS + random.sample([fault[1] for fault in faults], many)
                self.assertEqual(fault_of(rows), self.expect(rows, faults))

    def test_bodies_go_by_their_sorts_then_by_rows(self):
        """One body of each sort, each with a fault of its own; each time the one that is found is mended."""
        bad = {"def": call("plus", ONE, NO), "once": X, "does": call("d", ONE), "ask": case(ONE, ("No", (), ONE))}
        random = chance(36)
        for step in range(100):
            rows = [
                ("def", "f", (), bad["def"]), ("def", "g", (), bad["def"]), ("once", "d", (), bad["once"]),
                ("does", "c", "whole", "e", (), bad["does"]), ("ask", bad["ask"]), ("ask", bad["ask"]),
                ("class", "c", ()), ("deed", "d", "c", (), 0), ("deed", "e", "c", (), 0), ("house", "c", "whole", ()),
            ]
            rows = random.sample(rows, len(rows))
            order = [number for sorts in [["def"], ["once", "does"], ["ask"]]
                     for number, row in enumerate(rows) if row[0] in sorts]
            told = {"def": ("Unfit", 3), "once": ("NoSuch", 1), "does": ("Miscount", 1), "ask": ("Lacks", 1)}
            for number in order:
                error, node = told[rows[number][0]]
                self.assertEqual(fault_of(rows), (error, (number, node)))
                mended = call("d") if rows[number][0] == "once" else ONE
                rows[number] = rows[number][:-1] + (mended,)
            self.assertIsNone(fault_of(rows))

    def test_in_one_body(self):
        """Nodes, then pairs, then needs, wherever they stand."""
        rows = self.ROWS + [("ask", None)]
        faults = [(call("nothing"), "NoSuch"), (call("plus", NO, ONE), "Unfit"), (call("e", form("Unit")), "NoHouse")]
        for order in itertools.permutations(faults):
            for many in range(1, 4):
                expression = ONE
                for part, error in order[:many]:
                    expression = case(part, ("Unit", (), expression)) if error == "NoHouse" else (
                        case(call("under", part, ONE), ("No", (), expression), ("Yes", (), ONE)))
                rows[-1] = ("ask", expression)
                told = [error for part, error in faults if error in [fault[1] for fault in order[:many]]]
                self.assertEqual(fault_of(rows)[0], told[0])


if __name__ == "__main__":
    unittest.main()
