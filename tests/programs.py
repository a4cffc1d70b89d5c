"""Expressions and programs that several tests build, and the looks of [11] written the long way."""

X = ("name", "x")
Y = ("name", "y")
ONE = ("number", 1)
NO = ("form", "No", ())
YES = ("form", "Yes", ())
WHOLE = ("whole",)
TRUTH = ("truth",)


def call(name, *args):
    return ("call", name, args)


def form(name, *args):
    return ("form", name, args)


def case(looked_at, *arms):
    return ("case", looked_at, arms)


def nested(above, inner=ONE):
    """An expression in which inner stands beneath so many others."""
    for step in range(above):
        inner = call("f", inner)
    return inner


def wide(nodes):
    """An expression of so many nodes, three parts wherever there is room."""
    if nodes == 1:
        return ONE
    left = nodes - 1
    args = []
    for place in range(min(3, left)):
        share = left // (min(3, nodes - 1) - place)
        args.append(wide(share))
        left = left - share
    return ("call", "f", tuple(args))


def full():
    """A program with each sort of row, which nothing refuses; a new list each time."""
    return [
        ("kind", "list", 1, (("End", ()), ("Link", (0, ("list", 0))))),  # 0
        ("kind", "pair", 2, (("Pair", (0, 1)),)),
        ("class", "like", ()),
        ("class", "order", ("like",)),
        ("deed", "same", "like", (0, 0), TRUTH),
        ("deed", "below", "order", (0, 0), TRUTH),  # 5
        ("deed", "most", "order", (0, 0), 0),
        ("once", "most", ("x", "y"), case(call("below", X, Y), ("Yes", (), Y), ("No", (), X))),
        ("house", "like", "whole", ()),
        ("does", "like", "whole", "same", ("x", "y"), case(call("under", X, Y), ("Yes", (), NO), ("No", (), YES))),
        ("house", "order", "whole", ()),  # 10
        ("does", "order", "whole", "below", ("x", "y"), call("under", X, Y)),
        ("does", "order", "whole", "most", ("x", "y"), Y),
        ("house", "like", "list", ("like",)),
        ("does", "like", "list", "same", ("x", "y"), YES),
        ("house", "order", "list", ("order",)),  # 15
        ("does", "order", "list", "below", ("x", "y"), NO),
        ("house", "like", "pair", ("like", None)),
        ("does", "like", "pair", "same", ("x", "y"), NO),
        ("def", "biggest", ("x", "y"), call("most", X, Y)),
        ("ask", call("biggest", ONE, ("number", -2))),  # 20
        ("ask", call("same", form("Pair", ONE, form("End")), form("Pair", ONE, form("End")))),
    ]


def with_row(program, number, row):
    """The program with this row in the place of that number."""
    return program[:number] + [row] + program[number + 1:]


def without_row(program, number):
    return program[:number] + program[number + 1:]


def made_within(kind):
    """All made kinds that stand in a kind, the kind itself among them."""
    if isinstance(kind, int):
        return []
    return [kind] + [made for part in kind[1:] for made in made_within(part)]


class SlowLooks:
    """The looks of [11], each over all rows, so that one may see every fault that a program has."""

    ORDER = ["Twice", "NoSuch", "Miscount", "Ring", "Open", "Lacks", "NoHouse"]

    def __init__(self, rows):
        self.rows = rows
        self.kinds = {"whole": 0, "truth": 0, **{row[1]: row[2] for row in rows if row[0] == "kind"}}
        self.elders = {row[1]: row[2] for row in rows if row[0] == "class"}
        self.deeds = {row[1]: row for row in rows if row[0] == "deed"}
        self.onces = {row[1] for row in rows if row[0] == "once"}
        self.houses = {row[1:3]: row[3] for row in rows if row[0] == "house"}
        self.does = {row[1:4] for row in rows if row[0] == "does"}

    def fault(self):
        """The class's name and the row of the first fault, or None."""
        for name in self.ORDER:
            found = [number for number, row in enumerate(self.rows) if getattr(self, name)(number, row)]
            if found:
                return (name, found[0])
        return None

    def all_tellings(self, row):
        sort = row[0]
        if sort == "kind":
            return ["kind " + row[1]] + ["form " + told[0] for told in row[3]]
        if sort in ("deed", "def"):
            return ["function " + row[1]]
        long = {"class": 1, "once": 1, "house": 2, "does": 3, "ask": 0}[sort]
        return [" ".join(row[:1 + long])] if long else []

    def Twice(self, number, row):
        ahead = "kind whole,kind truth,form No,form Yes,function plus,function minus,function under".split(",")
        for other in self.rows[:number]:
            ahead += self.all_tellings(other)
        both = ahead + self.all_tellings(row)
        return any(both.count(telling) > 1 for telling in self.all_tellings(row))

    def made(self, row):
        if row[0] == "kind":
            return [made for told in row[3] for part in told[1] for made in made_within(part)]
        if row[0] == "deed":
            return [made for part in row[3] + (row[4],) for made in made_within(part)]
        return []

    def NoSuch(self, number, row):
        sort = row[0]
        if sort == "class":
            return not set(row[2]) <= set(self.elders)
        if sort == "kind":
            return not {made[0] for made in self.made(row)} <= set(self.kinds)
        if sort == "deed":
            return not {made[0] for made in self.made(row)} <= set(self.kinds) or row[2] not in self.elders
        if sort == "house":
            return not {row[1], *row[3]} - {None} <= set(self.elders) or row[2] not in self.kinds
        if sort == "once":
            return row[1] not in self.deeds
        if sort == "does":
            return row[1:3] not in self.houses or (row[3], row[1]) not in [deed[1:3] for deed in self.deeds.values()]
        return False

    def Miscount(self, number, row):
        if row[0] == "house":
            return len(row[3]) != self.kinds[row[2]]
        if row[0] in ("once", "does"):
            return len(row[-2]) != len(self.deeds[row[-3]][3])
        return any(len(made) != 1 + self.kinds[made[0]] for made in self.made(row))

    def reached(self, cls):
        """All classes that one comes to from this one by one step or more."""
        found = set(self.elders[cls])
        for step in self.elders:
            found |= {elder for one in found for elder in self.elders[one]}
        return found

    def Ring(self, number, row):
        return row[0] == "class" and row[1] in self.reached(row[1])

    def Open(self, number, row):
        return row[0] == "deed" and "0" not in repr(row[3:])

    def Lacks(self, number, row):
        if row[0] != "house":
            return False
        of_class = [deed for deed in self.deeds if self.deeds[deed][2] == row[1]]
        return any(deed not in self.onces and row[1:3] + (deed,) not in self.does for deed in of_class)

    def NoHouse(self, number, row):
        if row[0] != "house":
            return False
        for elder in self.elders[row[1]]:
            if (elder, row[2]) not in self.houses:
                return True
            for part, need in enumerate(self.houses[elder, row[2]]):
                served = {None} if row[3][part] is None else {None, row[3][part]} | self.reached(row[3][part])
                if need not in served:
                    return True
        return False
