"""Points 12 to 22 and 24 written the long way, to hold the program's answers against: plain recursion, one point
after the other, with nothing drawn from the program."""

import sys

from chances import all_nodes, parts_of
from programs import TRUTH, WHOLE
from samples import changed, size, slowly_fitted


class Refused(Exception):
    """Told with the name of the error's class and its place."""


class SlowLore:
    def __init__(self, rows):
        self.rows = rows
        self.forms = {"No": ("truth", ()), "Yes": ("truth", ())}
        self.many = {"whole": 0, "truth": 0}
        self.kind_forms = {"whole": [], "truth": ["No", "Yes"]}
        self.elders, self.class_row, self.deeds, self.houses, self.onces, self.does = {}, {}, {}, {}, {}, {}
        for number, row in enumerate(rows):
            if row[0] == "kind":
                self.many[row[1]] = row[2]
                self.kind_forms[row[1]] = [form[0] for form in row[3]]
                self.forms.update({form[0]: (row[1], form[1]) for form in row[3]})
            elif row[0] == "class":
                self.elders[row[1]] = row[2]
                self.class_row[row[1]] = number
            elif row[0] == "deed":
                self.deeds[row[1]] = row[2:]
            elif row[0] == "house":
                self.houses[row[1:3]] = (number, row[3])
            elif row[0] == "once":
                self.onces[row[1]] = number
            elif row[0] == "does":
                self.does[row[1:4]] = number

    def over(self, cls):
        """The class and all its elders, near and far."""
        return {cls}.union(*[self.over(elder) for elder in self.elders[cls]])

    def road(self, cls, sought):
        """The steps of [13] from a class up to one of its elders."""
        if cls == sought:
            return []
        step = next(elder for elder in self.elders[cls] if sought in self.over(elder))
        return [step] + self.road(step, sought)

    def tree(self, given, cls, kind):
        if isinstance(kind, int):
            numbers = [n for n, need in enumerate(given) if need and need[1] == kind and cls in self.over(need[0])]
            if not numbers:
                return None
            tree = ("given", numbers[0])
            for step in self.road(given[numbers[0]][0], cls):
                tree = ("elder", step, tree)
            return tree
        if (cls, kind[0]) not in self.houses:
            return None
        row, needs = self.houses[cls, kind[0]]
        trees = [need and self.tree(given, need, part) for need, part in zip(needs, kind[1:])]
        if any(need and not tree for need, tree in zip(needs, trees)):
            return None
        return ("house", row, tuple(trees))


def told_open(kind, numbers):
    if kind in numbers:
        return numbers[kind]
    if isinstance(kind, int):
        return WHOLE
    return (kind[0],) + tuple(told_open(part, numbers) for part in kind[1:])


def in_order(kinds):
    """The open kinds of these, each once, as they first stand."""
    found = []
    for kind in kinds:
        for one in [kind] if isinstance(kind, int) else in_order(kind[1:]):
            if one not in found:
                found.append(one)
    return found


class SlowBody:
    def __init__(self, lore, told, row):
        self.lore, self.row, self.body = lore, row, lore.rows[row]
        self.functions = {"plus": ((WHOLE, WHOLE), WHOLE, ()), "minus": ((WHOLE, WHOLE), WHOLE, ()),
                          "under": ((WHOLE, WHOLE), TRUTH, ())}
        for name, (cls, params, result) in lore.deeds.items():
            self.functions[name] = (params, result, ((cls, 0),))
        last = row if self.body[0] == "def" else len(lore.rows)
        for other in lore.rows[:last]:
            if other[0] == "def":
                self.functions[other[1]] = told[other[1]]
        self.nodes = dict(enumerate(all_nodes(self.body[-1]), start=1))
        self.kids = {}
        self.find_kids(1)
        self.names = {}
        own = () if self.body[0] == "ask" else self.body[-2]
        self.find_names(1, {name: ("own", place) for place, name in enumerate(own)})

    def find_kids(self, number):
        child = number + 1
        self.kids[number] = []
        for part in parts_of(self.nodes[number]):
            self.kids[number].append(child)
            self.find_kids(child)
            child += len(all_nodes(part))

    def find_names(self, number, names):
        """Of each node the names that serve there: ("own", place), or (a case's number, its form, place)."""
        self.names[number] = names
        node = self.nodes[number]
        for place, kid in enumerate(self.kids[number]):
            within = dict(names)
            if node[0] == "case" and place > 0:
                form, arms_names = node[2][place - 1][:2]
                within.update({name: (number, form, part) for part, name in enumerate(arms_names)})
            self.find_names(kid, within)

    def refuse(self, error, number):
        raise Refused(error, (self.row, number))

    def look(self):
        for number, node in self.nodes.items():
            if node[0] == "name" and node[1] not in self.names[number]:
                self.refuse("NoSuch", number)
            if node[0] == "form":
                if node[1] not in self.lore.forms:
                    self.refuse("NoSuch", number)
                if len(self.lore.forms[node[1]][1]) != len(node[2]):
                    self.refuse("Miscount", number)
            if node[0] == "call":
                if node[1] not in self.functions:
                    self.refuse("NoSuch", number)
                if len(self.functions[node[1]][0]) != len(node[2]):
                    self.refuse("Miscount", number)
            if node[0] == "case":
                self.look_at_case(number, node[2])

    def look_at_case(self, number, arms):
        if not {arm[0] for arm in arms} <= set(self.lore.forms):
            self.refuse("NoSuch", number)
        if any(len(arm[1]) != len(self.lore.forms[arm[0]][1]) for arm in arms):
            self.refuse("Miscount", number)
        kinds = {self.lore.forms[arm[0]][0] for arm in arms}
        if len(kinds) > 1 or len({arm[0] for arm in arms}) < len(arms):
            self.refuse("Lacks", number)
        if len(self.lore.kind_forms[kinds.pop()]) > len(arms):
            self.refuse("Lacks", number)

    def make_pairs(self):
        self.news = {}
        new = 100
        for number, node in self.nodes.items():
            many = 0
            if node[0] in ("form", "case"):
                form = node[1] if node[0] == "form" else node[2][0][0]
                many = self.lore.many[self.lore.forms[form][0]]
            elif node[0] == "call":
                many = len(in_order(self.functions[node[1]][0] + (self.functions[node[1]][1],)))
            self.news[number] = list(range(new, new + many))
            new += many
        self.pairs = self.pairs_at(1)
        if self.body[0] in ("once", "does"):
            self.pairs.append((1, 1, changed(self.lore.deeds[self.body[-3]][2], {0: self.hand()})))

    def hand(self):
        if self.body[0] == "once":
            return ("'0",)
        return (self.body[2], ("'0",), ("'1",), ("'2",))[:1 + self.lore.many[self.body[2]]]

    def kind_of_name(self, number, name):
        where = self.names[number][name]
        if where[0] != "own":
            return self.part_kind(where[0], where[1], where[2])
        if self.body[0] == "def":
            return 50 + where[1]
        return changed(self.lore.deeds[self.body[-3]][1][where[1]], {0: self.hand()})

    def part_kind(self, number, form, part):
        return changed(self.lore.forms[form][1][part], dict(enumerate(self.news[number])))

    def pairs_at(self, n):
        node, kids = self.nodes[n], self.kids[n]
        if node[0] == "number":
            return [(n, n, WHOLE)]
        if node[0] == "name":
            return [(n, n, self.kind_of_name(n, node[1]))]
        pairs = []
        if node[0] == "case":
            pairs += self.pairs_at(kids[0])
            pairs.append((kids[0], kids[0], (self.lore.forms[node[2][0][0]][0], *self.news[n])))
            for kid in kids[1:]:
                pairs += self.pairs_at(kid) + [(kid, kid, n)]
            return pairs
        if node[0] == "form":
            params = [self.part_kind(n, node[1], part) for part in range(len(kids))]
            result = (self.lore.forms[node[1]][0], *self.news[n])
        else:
            told = self.functions[node[1]]
            places = dict(zip(in_order(told[0] + (told[1],)), self.news[n]))
            params = [changed(param, places) for param in told[0]]
            result = changed(told[1], places)
        for kid, param in zip(kids, params):
            pairs += self.pairs_at(kid) + [(kid, kid, param)]
        return pairs + [(n, n, result)]

    def fit(self):
        places = {}
        for number, one, other in self.pairs:
            step = slowly_fitted([(changed(one, places), changed(other, places))])
            if step is None:
                self.refuse("Unfit", number)
            places = {kind: changed(places[kind], step) for kind in places}
            places.update(step)
            if any(size(kind) > 60 for kind in places.values()):
                self.refuse("TooGreat", number)
        self.places = places

    def needs(self):
        """Of each call of a deed or def its number, and its needs."""
        found = []
        for number, node in self.nodes.items():
            if node[0] == "call" and node[1] not in ("plus", "minus", "under"):
                puts = [changed(new, self.places) for new in self.news[number]]
                found.append((number, puts, [(cls, puts[v]) for cls, v in self.functions[node[1]][2]]))
        return found

    def meet(self, number, need, serves):
        """Goes down by houses; of an open kind, or one of the body's own parts, serves tells."""
        cls, kind = need
        if isinstance(kind, int) or kind[0][0] == "'":
            return serves(number, cls, kind)
        if (cls, kind[0]) not in self.lore.houses:
            self.refuse("NoHouse", number)
        for inner, part in zip(self.lore.houses[cls, kind[0]][1], kind[1:]):
            if inner is not None:
                self.meet(number, (inner, part), serves)

    def find(self):
        """Tells the told kind of a def, or None."""
        self.look()
        self.make_pairs()
        self.fit()
        told = None
        if self.body[0] == "def":
            told = self.find_def()
        else:
            self.find_others()
        self.kinds = {n: told_open(changed(n, self.places), self.numbers) for n in self.nodes}
        self.puts, self.trees = {}, {}
        for number, puts, needs in self.needs():
            self.puts[number] = tuple(told_open(kind, self.numbers) for kind in puts)
            self.trees[number] = tuple(
                self.lore.tree(self.given, cls, told_open(kind, self.numbers)) for cls, kind in needs)
        return told

    def find_others(self):
        if self.body[0] == "ask":
            self.numbers, self.given = {}, []
        elif self.body[0] == "once":
            self.numbers, self.given = {("'0",): 0}, [(self.lore.deeds[self.body[1]][0], 0)]
        else:
            self.numbers = {("'0",): 0, ("'1",): 1, ("'2",): 2}
            needs = self.lore.houses[self.body[1:3]][1]
            self.given = [need and (need, part) for part, need in enumerate(needs)]

        def serves(number, cls, kind):
            if isinstance(kind, int):
                self.refuse("Open", number)
            if self.lore.tree(self.given, cls, self.numbers[kind]) is None:
                self.refuse("NoHouse", number)

        for number, puts, needs in self.needs():
            for need in needs:
                self.meet(number, need, serves)

    def find_def(self):
        params = [changed(50 + place, self.places) for place in range(len(self.body[2]))]
        result = changed(1, self.places)
        self.numbers = {kind: number for number, kind in enumerate(in_order(params + [result]))}
        asked = set()

        def serves(number, cls, kind):
            if kind not in self.numbers:
                self.refuse("Open", number)
            asked.add((self.numbers[kind], cls))

        for number, puts, needs in self.needs():
            for need in needs:
                self.meet(number, need, serves)
        kept = [need for need in asked
                if not any(v == need[0] and cls != need[1] and need[1] in self.lore.over(cls) for v, cls in asked)]
        kept.sort(key=lambda need: (need[0], self.lore.class_row[need[1]]))
        self.given = [(cls, v) for v, cls in kept]
        return (tuple(told_open(kind, self.numbers) for kind in params), told_open(result, self.numbers),
                tuple(self.given))


class SlowFound:
    """fault: None, or a pair of the error's name and the place; told: by names; bodies: by rows."""

    def __init__(self, rows):
        self.lore = SlowLore(rows)
        self.told, self.bodies, self.fault = {}, {}, None
        try:
            for sorts in ["def"], ["once", "does"], ["ask"]:
                for number, row in enumerate(rows):
                    if row[0] in sorts:
                        self.find(number, row)
        except Refused as refusal:
            self.fault = refusal.args

    def find(self, number, row):
        body = SlowBody(self.lore, self.told, number)
        told = body.find()
        self.bodies[number] = body
        if row[0] == "def":
            self.told[row[1]] = told


class SlowRun:
    """[21], [22] and [24] by plain recursion, with closed kinds for the open ones of each body."""

    def __init__(self, slow):
        self.slow, self.lore, self.steps = slow, slow.lore, 0

    def ask(self, row):
        """A tuple of the value and the steps, or of the error's name and None."""
        self.steps = 0
        limit = sys.getrecursionlimit()
        sys.setrecursionlimit(100000)
        try:
            return (self.value(self.slow.bodies[row], 1, {}, {}), self.steps)
        except Refused as refusal:
            return refusal.args
        finally:
            sys.setrecursionlimit(limit)

    def value(self, body, number, names, places):
        node = body.nodes[number]
        if node[0] == "number":
            return node[1]
        if node[0] == "name":
            return names[node[1]]
        kids = body.kids[number]
        if node[0] == "case":
            looked_at = self.value(body, kids[0], names, places)
            for arm, kid in zip(node[2], kids[1:]):
                if arm[0] == looked_at[0]:
                    return self.value(body, kid, {**names, **dict(zip(arm[1], looked_at[1:]))}, places)
        args = []
        for kid in kids:
            args.append(self.value(body, kid, names, places))
        if node[0] == "form":
            if size_of_value((node[1], *args)) > 100:
                raise Refused("TooGreat", None)
            return (node[1], *args)
        if node[1] in ("plus", "minus"):
            return args[0] + args[1] * (1 if node[1] == "plus" else -1)
        if node[1] == "under":
            return ("Yes",) if args[1] > args[0] else ("No",)
        self.steps += 1
        if self.steps > 1000:
            raise Refused("TooLong", None)
        puts = [changed(kind, places) for kind in body.puts[number]]
        if node[1] in self.lore.deeds:
            return self.deed(node[1], puts[0], args)
        row = [row for row, other in enumerate(self.lore.rows) if other[:2] == ("def", node[1])][0]
        return self.body(row, args, puts)

    def body(self, row, args, puts):
        return self.value(self.slow.bodies[row], 1, dict(zip(self.lore.rows[row][-2], args)), dict(enumerate(puts)))

    def deed(self, name, kind, args):
        row = self.lore.does.get((self.lore.deeds[name][0], kind[0], name))
        if row is not None:
            return self.body(row, args, kind[1:])
        return self.body(self.lore.onces[name], args, [kind])

    def is_of(self, value, kind):
        """Whether the value is one of a closed kind."""
        if isinstance(value, int):
            return kind == WHOLE
        if value[0] not in self.lore.forms:
            return False
        name, parts = self.lore.forms[value[0]]
        if name != kind[0] or len(parts) != len(value) - 1:
            return False
        places = dict(enumerate(kind[1:]))
        return all(self.is_of(part, changed(told, places)) for part, told in zip(value[1:], parts))


def size_of_value(value):
    return 1 if isinstance(value, int) else 1 + sum(size_of_value(part) for part in value[1:])
