"""Pairs: the look at the nodes of a body, and the pairs of kinds that must be the same in it."""

from kinddeeds.errors import Lacks, Miscount, NoSuch
from kinddeeds.kinds import opens_of, put

FIRST_OF_NAMES = 50
FIRST_NEW = 100

# The functions that are there of themselves, as defs are told: params, result, needs.
OWN_TOLD = {
    "plus": ((("whole",), ("whole",)), ("whole",), ()),
    "minus": ((("whole",), ("whole",)), ("whole",), ()),
    "under": ((("whole",), ("whole",)), ("truth",), ()),
}


# All functions that serve in the body of a row, as defs are told: a deed needs
# its class at the kind at hand. A def serves in defs of rows behind it alone.
def functions_for(lore, told, row):
    functions = dict(OWN_TOLD)
    rows = lore.rows()
    ahead_alone = rows[row][0] == "def"
    for number, other in enumerate(rows):
        if other[0] == "deed":
            functions[other[1]] = (other[3], other[4], ((other[2], 0),))
        elif other[0] == "def" and other[1] in told and (number < row or not ahead_alone):
            functions[other[1]] = told[other[1]]
    return functions


def opens_of_all(kinds):
    opens = {}
    for kind in kinds:
        for found in opens_of(kind):
            opens[found] = True
    return list(opens)


# No program can have a kind of such a name.
def part_kind(part):
    return ("'" + str(part),)


def kind_at_hand(lore, body):
    if body[0] == "once":
        return part_kind(0)
    return (body[2],) + tuple([part_kind(part) for part in range(lore.many_of(body[2]))])


# Of a once or does row: the params and the result of its deed at the kind at hand.
def deed_at_hand(lore, body):
    places = {0: kind_at_hand(lore, body)}
    deed = lore.deed_of(body[-3])
    return ([put(param, places) for param in deed[1]], put(deed[2], places))


def kinds_of_names(lore, body):
    if body[0] == "ask":
        return {}
    if body[0] == "def":
        return dict([(name, FIRST_OF_NAMES + place) for place, name in enumerate(body[2])])
    return dict(zip(body[-2], deed_at_hand(lore, body)[0]))


class Walk:
    # Nodes are come to by rising numbers, and each is looked at when it is come
    # to: so the first fault refuses, and new open kinds are taken in their order.
    def __init__(self, source, functions, row):
        self.source = source
        self.functions = functions
        self.row = row
        self.nodes = 0
        self.next_new = FIRST_NEW
        self.pairs = []
        # Of each call of a deed or def its node, the function's needs, and a dict from its open kinds to new ones.
        self.calls = []

    def take_new(self, many):
        taken = list(range(self.next_new, self.next_new + many))
        self.next_new = self.next_new + many
        return taken

    def keep(self, node, kind):
        self.pairs.append((node, node, kind))

    # Tells the node's number; names is a dict from the names that serve there to their kinds.
    def go(self, node, names):
        self.nodes = self.nodes + 1
        number = self.nodes
        if node[0] == "number":
            self.keep(number, ("whole",))
        elif node[0] == "name":
            if node[1] not in names:
                raise NoSuch((self.row, number))
            self.keep(number, names[node[1]])
        elif node[0] == "form":
            self.go_form(number, node, names)
        elif node[0] == "call":
            self.go_call(number, node, names)
        else:
            self.go_case(number, node, names)
        return number

    def go_form(self, number, node, names):
        kind = self.source.kind_of_form(node[1])
        if kind is None:
            raise NoSuch((self.row, number))
        parts = self.parts_of_form(kind, node[1])
        if len(node[2]) != len(parts):
            raise Miscount((self.row, number))
        news = self.take_new(self.source.many_of(kind))
        places = dict(enumerate(news))
        self.go_args(node, [put(part, places) for part in parts], names)
        self.keep(number, (kind,) + tuple(news))

    def parts_of_form(self, kind, form):
        return dict(self.source.forms_of(kind))[form]

    def go_call(self, number, node, names):
        function = self.functions.get(node[1])
        if function is None:
            raise NoSuch((self.row, number))
        if len(node[2]) != len(function[0]):
            raise Miscount((self.row, number))
        opens = opens_of_all(function[0] + (function[1],))
        places = dict(zip(opens, self.take_new(len(opens))))
        if node[1] not in OWN_TOLD:
            self.calls.append((number, function[2], places))
        self.go_args(node, [put(param, places) for param in function[0]], names)
        self.keep(number, put(function[1], places))

    def go_args(self, node, kinds, names):
        for arg, kind in zip(node[2], kinds):
            number = self.go(arg, names)
            self.keep(number, kind)

    def go_case(self, number, node, names):
        self.look_at_arms(number, node[2])
        kind = self.source.kind_of_form(node[2][0][0])
        news = self.take_new(self.source.many_of(kind))
        places = dict(enumerate(news))
        looked_at = self.go(node[1], names)
        self.keep(looked_at, (kind,) + tuple(news))
        for arm in node[2]:
            parts = [put(part, places) for part in self.parts_of_form(kind, arm[0])]
            within = dict(names)
            within.update(dict(zip(arm[1], parts)))
            end = self.go(arm[2], within)
            self.keep(end, number)

    def look_at_arms(self, number, arms):
        kinds = [self.source.kind_of_form(arm[0]) for arm in arms]
        if None in kinds:
            raise NoSuch((self.row, number))
        for kind, arm in zip(kinds, arms):
            if len(arm[1]) != len(self.parts_of_form(kind, arm[0])):
                raise Miscount((self.row, number))
        # A form is of one kind alone, so the same forms are forms of the same kind.
        forms = [form[0] for form in self.source.forms_of(kinds[0])]
        if sorted([arm[0] for arm in arms]) != sorted(forms):
            raise Lacks((self.row, number))


def walked(lore, told, row):
    body = lore.rows()[row]
    walk = Walk(lore, functions_for(lore, told, row), row)
    walk.go(body[-1], kinds_of_names(lore, body))
    if body[0] == "once" or body[0] == "does":
        walk.keep(1, deed_at_hand(lore, body)[1])
    return walk


def pairs_of(lore, told, row):
    return walked(lore, told, row).pairs
