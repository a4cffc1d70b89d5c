"""Found: the kinds of all nodes of a program, and the trees that meet the needs of its calls."""

from kinddeeds.errors import NoHouse, Open, TooGreat, Unfit
from kinddeeds.fitting import fitted
from kinddeeds.kinds import put
from kinddeeds.lore import Lore
from kinddeeds.pairs import FIRST_OF_NAMES, kind_at_hand, opens_of_all, walked
from kinddeeds.trees import given_in_house, tree_by


def rows_with_bodies(rows):
    order = []
    for sorts in (("def",), ("once", "does"), ("ask",)):
        order.extend([number for number, row in enumerate(rows) if row[0] in sorts])
    return order


# None where they do not fit; where they fit only with TooGreat, it is raised at the place.
def fitted_at(pairs, place):
    try:
        return fitted([(pair[1], pair[2]) for pair in pairs])
    except TooGreat:
        raise TooGreat(place) from None


def refuse_first_unfit(pairs, row):
    for many in range(1, len(pairs) + 1):
        place = (row, pairs[many - 1][0])
        if fitted_at(pairs[:many], place) is None:
            raise Unfit(place)


# Where all pairs fit, and none too greatly, those ahead of any one do so too,
# since they ask for less: only a body that is refused is gone through by pairs.
def places_of(pairs, row):
    try:
        places = fitted_at(pairs, None)
    except TooGreat:
        places = None
    if places is None:
        refuse_first_unfit(pairs, row)
    return places


# Of each call a tuple: its node, the kinds that stand for its open ones, and its needs.
def calls_found(walk, places):
    found = []
    for node, needs, news in walk.calls:
        kinds = dict([(number, put(new, places)) for number, new in news.items()])
        found.append((node, list(kinds.values()), [(cls, kinds[number]) for cls, number in needs]))
    return found


# The needs that a need is led to by houses, from the left: each at an open kind,
# or at a made one without such a house. By a list in the place of recursion.
def ends_of(lore, need):
    ends = []
    waiting = [need]
    while waiting:
        end = waiting.pop()
        row = None if isinstance(end[1], int) else lore.house_of(end[0], end[1][0])
        if row is None:
            ends.append(end)
        else:
            beneath = [(cls, part) for cls, part in zip(lore.needs_of(row), end[1][1:]) if cls is not None]
            waiting.extend(list(reversed(beneath)))
    return ends


# Of a def: the kinds of its names, then of node 1.
def kinds_of_def(body, places):
    kinds = [put(FIRST_OF_NAMES + place, places) for place in range(len(body[2]))]
    return kinds + [put(1, places)]


# The kinds of a body that are told as open ones, from 0 on, in their order.
def kinds_told_open(lore, body, places):
    if body[0] == "def":
        return opens_of_all(kinds_of_def(body, places))
    if body[0] == "once":
        return [kind_at_hand(lore, body)]
    if body[0] == "does":
        return list(kind_at_hand(lore, body)[1:])
    return []


def told_kind(kind, numbers):
    if kind in numbers:
        return numbers[kind]
    if isinstance(kind, int):
        return ("whole",)
    return (kind[0],) + tuple([told_kind(part, numbers) for part in kind[1:]])


def is_of_elder(lore, need, needs):
    return any([other[1] == need[1] and need[0] in lore.far_elders(other[0]) for other in needs])


# The needs at open kinds, as a def tells them: sorted, and none that another one brings with it.
def needs_told(lore, ends, numbers):
    needs = [(cls, numbers[kind]) for cls, kind in ends if kind in numbers]
    least = []
    for number in range(len(numbers)):
        for row in lore.rows():
            need = (row[1], number)
            if row[0] == "class" and need in needs and not is_of_elder(lore, need, needs):
                least.append(need)
    return least


def given_in(lore, body, ends, numbers):
    if body[0] == "def":
        return needs_told(lore, ends, numbers)
    if body[0] == "once":
        return [(lore.deed_of(body[1])[0], 0)]
    if body[0] == "does":
        return given_in_house(lore, lore.house_of(body[1], body[2]))
    return []


def look_at_end(lore, given, numbers, end, place):
    cls = end[0]
    kind = end[1]
    if kind in numbers and tree_by(lore, given, cls, numbers[kind]) is not None:
        return
    if isinstance(kind, int):
        raise Open(place)
    raise NoHouse(place)


class Found:
    def __init__(self, program):
        self.source = Lore(program)
        # By a def's name.
        self.tellings = {}
        # By row and node.
        self.node_kinds = {}
        self.call_puts = {}
        self.call_trees = {}
        for row in rows_with_bodies(self.source.rows()):
            self.find_in(row)

    def find_in(self, row):
        body = self.source.rows()[row]
        walk = walked(self.source, self.tellings, row)
        places = places_of(walk.pairs, row)
        calls = calls_found(walk, places)
        ends = self.ends_by_node(calls)
        opens = kinds_told_open(self.source, body, places)
        numbers = dict([(kind, number) for number, kind in enumerate(opens)])
        given = given_in(self.source, body, [end for node, end in ends], numbers)
        for node, end in ends:
            look_at_end(self.source, given, numbers, end, (row, node))
        for node in range(1, walk.nodes + 1):
            self.node_kinds[(row, node)] = told_kind(put(node, places), numbers)
        for call in calls:
            self.keep_call(row, call, given, numbers)
        if body[0] == "def":
            kinds = [told_kind(kind, numbers) for kind in kinds_of_def(body, places)]
            self.tellings[body[1]] = (tuple(kinds[:-1]), kinds[-1], tuple(given))

    def ends_by_node(self, calls):
        ends = []
        for node, kinds, needs in calls:
            for need in needs:
                ends.extend([(node, end) for end in ends_of(self.source, need)])
        return ends

    def keep_call(self, row, call, given, numbers):
        place = (row, call[0])
        self.call_puts[place] = tuple([told_kind(kind, numbers) for kind in call[1]])
        needs = [(cls, told_kind(kind, numbers)) for cls, kind in call[2]]
        self.call_trees[place] = tuple([tree_by(self.source, given, cls, kind) for cls, kind in needs])

    def lore(self):
        return self.source

    def told(self, name):
        return self.tellings.get(name)

    def kind_at(self, row, node):
        return self.node_kinds[(row, node)]

    def puts_at(self, row, node):
        return self.call_puts.get((row, node))

    def trees_at(self, row, node):
        return self.call_trees.get((row, node))
