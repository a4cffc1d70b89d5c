"""Programs made by chance with fixed seeds: most of them of kinds that fit, some with faults put in."""

from kinddeeds.rows import is_row
from programs import TRUTH, WHOLE
from samples import changed

KINDS = [
    ("kind", "list", 1, (("End", ()), ("Link", (0, ("list", 0))))),
    ("kind", "pair", 2, (("Pair", (0, 1)),)),
    ("kind", "perhaps", 1, (("Nought", ()), ("Some", (0,)))),
    ("kind", "trio", 3, (("Trio", (0, 1, 2)), ("Solo", (2,)), ("Void", ()))),
    ("kind", "unit", 0, (("Unit", ()),)),
    ("kind", "deep", 1, (("Flat", (0,)), ("Deep", (("deep", ("deep", 0)),)))),
    ("kind", "colour", 0, (("Red", ()), ("Blue", ()), ("Green", ()), ("Grey", ()))),
]
OWN = {"plus": ((WHOLE, WHOLE), WHOLE), "minus": ((WHOLE, WHOLE), WHOLE), "under": ((WHOLE, WHOLE), TRUTH)}


class Stuck(Exception):
    pass


def matched(told, kind, places):
    """Puts into the dict what makes the told kind this one; False where nothing does."""
    if isinstance(told, int):
        return places.setdefault(told, kind) == kind
    if isinstance(kind, int) or told[0] != kind[0] or len(told) != len(kind):
        return False
    return all(matched(one, other, places) for one, other in zip(told[1:], kind[1:]))


class Maker:
    def __init__(self, random):
        self.random = random
        self.kinds = {row[1]: row for row in random.sample(KINDS, random.randrange(1, 5))}
        if "deep" in self.kinds and random.randrange(3):
            del self.kinds["deep"]
        self.kinds["truth"] = ("kind", "truth", 0, (("No", ()), ("Yes", ())))
        self.many = {"whole": 0, **{name: row[2] for name, row in self.kinds.items()}}
        self.elders = {}
        self.deeds = {}
        self.houses = {}
        self.defs = {}
        self.rows = [row for name, row in self.kinds.items() if name != "truth"]

    def some(self, things):
        return self.random.choice(list(things))

    def odds(self, percent):
        return self.random.randrange(100) < percent

    def some_kind(self, depth, opens=()):
        if opens and self.odds(40):
            return self.some(opens)
        names = [name for name in self.many if depth or not self.many[name]]
        name = "whole" if self.odds(30) else self.some(names)
        return (name,) + tuple(self.some_kind(depth - 1, opens) for part in range(self.many[name]))

    def far(self, cls):
        return {cls}.union(*[self.far(elder) for elder in self.elders[cls]])

    def make_classes(self):
        for name in self.random.sample(["like", "order", "show", "top", "z"], self.some([1, 2, 3, 3, 4])):
            elders = self.random.sample(list(self.elders), min(len(self.elders), self.some([0, 1, 1, 2, 3])))
            self.elders[name] = tuple(elders)
            self.rows.append(("class", name, tuple(elders)))
            for place in range(self.random.randrange(3)):
                self.make_deed(name, name[0] + "xy"[place])

    def make_deed(self, cls, name):
        while name not in self.deeds:
            params = tuple(self.some_kind(1, (0,)) for part in range(self.some([0, 1, 1, 2, 2, 3])))
            result = self.some_kind(1, (0,)) if self.odds(50) else self.some([WHOLE, TRUTH, 0])
            if "0" in repr((params, result)):
                self.deeds[name] = (cls, params, result)
                self.rows.append(("deed", name, cls, params, result))

    def make_houses(self):
        for cls in self.elders:
            for kind in self.many:
                if self.odds(75) and all((elder, kind) in self.houses for elder in self.elders[cls]):
                    self.make_house(cls, kind)

    def make_house(self, cls, kind):
        needs = []
        for part in range(self.many[kind]):
            asked = {self.houses[elder, kind][part] for elder in self.elders[cls]} - {None}
            good = [need for need in self.elders if asked <= self.far(need)] + [None] * (not asked)
            if not good:
                return
            needs.append(cls if cls in good and self.odds(50) else self.some(good))
        self.houses[cls, kind] = tuple(needs)
        self.rows.append(("house", cls, kind, tuple(needs)))

    def is_met(self, cls, kind, given):
        """given: a dict from kinds to classes, or None where every kind that is none of a program is of all."""
        if kind[0] not in self.many:
            return given is None or any(cls in self.far(one) for one in given.get(kind, ()))
        if (cls, kind[0]) not in self.houses:
            return False
        needs = self.houses[cls, kind[0]]
        return all(need is None or self.is_met(need, part, given) for need, part in zip(needs, kind[1:]))

    def functions(self):
        told = {name: (params, result, None) for name, (params, result) in OWN.items()}
        told.update({name: (deed[1], deed[2], deed[0]) for name, deed in self.deeds.items()})
        told.update({name: (params, result, None) for name, (params, result) in self.defs.items()})
        return told

    def expression(self, kind, names, depth, given):
        ways = [self.by_name] * 3 + [self.by_form] * 2
        if depth:
            ways += [self.by_call] * 6 + [self.by_case] * 2
        for way in self.random.sample(ways, len(ways)):
            found = way(kind, names, depth, given)
            if found is not None:
                return found
        raise Stuck

    def by_name(self, kind, names, depth, given):
        good = [name for name in names if names[name] == kind]
        return ("name", self.some(good)) if good else None

    def by_form(self, kind, names, depth, given):
        if kind == WHOLE:
            return ("number", self.some([0, 1, 2, 3, -1, 7, 10 ** 59]))
        if kind[0] not in self.kinds:
            return None
        forms = self.kinds[kind[0]][3]
        if not depth:
            forms = [form for form in forms if form[0] != "Deep" and form[0] != "Link"]
        name, parts = self.some(forms)
        places = dict(enumerate(kind[1:]))
        wanted = [changed(part, places) for part in parts]
        return ("form", name, tuple(self.expression(part, names, max(0, depth - 1), given) for part in wanted))

    def by_call(self, kind, names, depth, given):
        functions = self.functions()
        name = self.some(functions) if self.odds(30) or not self.deeds else self.some(self.deeds)
        params, result, cls = functions[name]
        places = {}
        if not matched(result, kind, places):
            return None
        for param in params:
            for number in set(range(3)) - set(places):
                if str(number) in repr(param):
                    places[number] = self.some(names.values()) if names and self.odds(60) else self.some_kind(1)
        if cls is not None and not self.is_met(cls, places[0], given) and self.odds(97):
            return None
        return ("call", name, tuple(self.expression(changed(param, places), names, depth - 1, given)
                                    for param in params))

    def by_case(self, kind, names, depth, given):
        made = [one for one in names.values() if one[0] in self.kinds]
        looked_at = self.some(made) if made and self.odds(70) else self.some_kind(1)
        if looked_at[0] not in self.kinds:
            return None
        forms = self.kinds[looked_at[0]][3]
        places = dict(enumerate(looked_at[1:]))
        arms = []
        for name, parts in self.random.sample(forms, len(forms)):
            own = self.random.sample("xyzuvw", len(parts))
            within = {**names, **{one: changed(part, places) for one, part in zip(own, parts)}}
            arms.append((name, tuple(own), self.expression(kind, within, depth - 1, given)))
        return ("case", self.expression(looked_at, names, depth - 1, given), tuple(arms))

    def make_bodies(self):
        onces = {deed: ("'0",) for deed in self.deeds if self.odds(50)}
        for deed, hand in onces.items():
            self.make_body(("once", deed), deed, hand, {hand: [self.deeds[deed][0]]})
        for (cls, kind), needs in self.houses.items():
            hand = (kind,) + tuple(("'" + str(part),) for part in range(len(needs)))
            given = {part: [need] for part, need in zip(hand[1:], needs) if need is not None}
            for deed in self.deeds:
                if self.deeds[deed][0] == cls and (deed not in onces or self.odds(50)):
                    self.make_body(("does", cls, kind, deed), deed, hand, given)

    def make_body(self, head, deed, hand, given):
        params = [changed(param, {0: hand}) for param in self.deeds[deed][1]]
        names = self.random.sample("xyzuvw", len(params))
        result = changed(self.deeds[deed][2], {0: hand})
        body = self.expression(result, dict(zip(names, params)), self.some([1, 2, 3]), given)
        self.rows.append(head + (tuple(names), body))

    def make_def(self, name):
        opens = [("'a",), ("'b",), ("'c",)]
        params = [self.some_kind(1, opens) for part in range(self.random.randrange(4))]
        result = self.some(params) if params and self.odds(50) else self.some([WHOLE, TRUTH, ("'a",)])
        names = self.random.sample("xyzuvw", len(params))
        body = self.expression(result, dict(zip(names, params)), self.some([1, 2, 3]), None)
        numbers = {kind: number for number, kind in enumerate(opens)}
        self.defs[name] = (tuple(numbered(param, numbers) for param in params), numbered(result, numbers))
        self.rows.append(("def", name, tuple(names), body))

    def program(self):
        self.make_classes()
        self.make_houses()
        for name in ["f", "g", "h"][:self.random.randrange(4)]:
            self.make_def(name)
        self.make_bodies()
        for place in range(self.random.randrange(1, 5)):
            kind = self.some_kind(self.some([0, 1, 2]))
            self.rows.append(("ask", self.expression(kind, {}, self.some([2, 3, 4]), {})))
        return self.rows


def numbered(kind, numbers):
    if kind in numbers:
        return numbers[kind]
    return (kind[0],) + tuple(numbered(part, numbers) for part in kind[1:])


def shuffled(random, rows):
    """The rows in another order, the defs among themselves in the same one."""
    defs = [row for row in rows if row[0] == "def"]
    mixed = random.sample(rows, len(rows))
    return [defs.pop(0) if row[0] == "def" else row for row in mixed]


def parts_of(node):
    if node[0] in ("form", "call"):
        return list(node[2])
    return [node[1]] + [arm[2] for arm in node[2]] if node[0] == "case" else []


def all_nodes(node):
    return [node] + [inner for part in parts_of(node) for inner in all_nodes(part)]


def with_parts(node, parts):
    if node[0] == "case":
        return ("case", parts[0], tuple(arm[:2] + (part,) for arm, part in zip(node[2], parts[1:])))
    return node[:2] + (tuple(parts),)


def with_node(node, number, new):
    """The expression with another one in the place of the node of this number, counted from 0."""
    if number == 0:
        return new
    number -= 1
    parts = parts_of(node)
    for place, part in enumerate(parts):
        many = len(all_nodes(part))
        if number < many:
            return with_parts(node, parts[:place] + [with_node(part, number, new)] + parts[place + 1:])
        number -= many


def spoilt(random, node, others):
    """The node with one small change, or another one in its place."""
    if random.randrange(4) == 0 or node[0] == "number":
        return random.choice(others)
    if node[0] == "name":
        return ("name", random.choice("xyzuvw"))
    way = random.randrange(3)
    if node[0] == "case":
        arms = list(node[2])
        if way == 0:
            arms[random.randrange(len(arms))] = random.choice(arms)
        elif way == 1:
            place = random.randrange(len(arms))
            arms[place] = (arms[place][0], random.choice([(), ("x",), ("y", "z")]), arms[place][2])
        else:
            arms[-1:] = random.choice([[], arms[-1:] * 2, [("End", (), arms[-1][2])], [("Odd", (), arms[-1][2])]])
        return ("case", node[1], tuple(arms))
    same = [other[1] for other in others if other[0] == node[0]] + ["Odd" if node[0] == "form" else "odd"]
    if way == 0:
        return (node[0], random.choice(same), node[2])
    return node[:2] + (random.choice([node[2][::-1], node[2][1:], node[2] + (random.choice(others),)]),)


def with_fault(random, rows):
    """The program with one change in a body, which is a fault as often as not."""
    bodies = [place for place, row in enumerate(rows) if row[0] in ("once", "does", "def", "ask")]
    others = [node for place in bodies for node in all_nodes(rows[place][-1])]
    place = random.choice(bodies)
    body = rows[place][-1]
    number = random.randrange(len(all_nodes(body)))
    new = with_node(body, number, spoilt(random, all_nodes(body)[number], others))
    if not is_row(("ask", new)):
        return rows
    return rows[:place] + [rows[place][:-1] + (new,)] + rows[place + 1:]


def some_program(random, faults):
    """A program that keeps to the bounds; faults: how many changes are put in."""
    while True:
        try:
            rows = Maker(random).program()
        except Stuck:
            continue
        if random.randrange(2):
            rows = shuffled(random, rows)
        for fault in range(faults):
            rows = with_fault(random, rows)
        if len(rows) <= 40 and all(is_row(row) for row in rows):
            return rows
