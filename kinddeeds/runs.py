"""Runs: what the asks of a program come to, by kinds or by tables."""

from kinddeeds.errors import TooGreat, TooLong
from kinddeeds.kinds import put
from kinddeeds.making import with_puts
from kinddeeds.rows import OWN_FUNCTIONS

MOST_STEPS = 1000
MOST_SIZE = 100


def size_of_value(value):
    size = 0
    waiting = [value]
    while waiting:
        part = waiting.pop()
        size = size + 1
        if isinstance(part, tuple):
            waiting.extend(part[1:])
    return size


def made_form(form, args):
    value = (form,) + tuple(args)
    if size_of_value(value) > MOST_SIZE:
        raise TooGreat(None)
    return value


def reckoned(name, args):
    if name == "plus":
        return args[0] + args[1]
    if name == "minus":
        return args[0] - args[1]
    return ("Yes",) if args[0] < args[1] else ("No",)


class Going:
    # One ask on its way: what is still to be done, the last thing first, and
    # the values come to for it. By lists in the place of recursion, since calls
    # may stand a thousand deep.
    def __init__(self, run):
        self.run = run
        self.steps = 0
        self.waiting = []
        self.come_to = []

    # handed is what stands in a body for its open kinds, or for its given needs.
    def wait_for(self, expression, names, handed):
        self.waiting.append(("go", expression, names, handed))

    def go_on(self):
        while self.waiting:
            task = self.waiting.pop()
            if task[0] == "go":
                self.go(task[1], task[2], task[3])
            elif task[0] == "end":
                self.end(task[1], task[2])
            else:
                self.choose(task[1], task[2], task[3])
        return self.come_to.pop()

    def go(self, node, names, handed):
        if node[0] == "number":
            self.come_to.append(node[1])
        elif node[0] == "name":
            self.come_to.append(names[node[1]])
        elif node[0] == "case":
            self.waiting.append(("choose", node[2], names, handed))
            self.wait_for(node[1], names, handed)
        else:
            self.waiting.append(("end", node, handed))
            for arg in reversed(node[-1]):
                self.wait_for(arg, names, handed)

    def choose(self, arms, names, handed):
        value = self.come_to.pop()
        chosen = [arm for arm in arms if arm[0] == value[0]][0]
        within = dict(names)
        within.update(dict(zip(chosen[1], value[1:])))
        self.wait_for(chosen[2], within, handed)

    # The args of a form, a call or a deed are come to.
    def end(self, node, handed):
        args = [self.come_to.pop() for arg in node[-1]]
        args.reverse()
        if node[0] == "form":
            self.come_to.append(made_form(node[1], args))
        elif node[0] == "call" and node[1] in OWN_FUNCTIONS:
            self.come_to.append(reckoned(node[1], args))
        else:
            self.step_into(node, args, handed)

    def step_into(self, node, args, handed):
        if self.steps == MOST_STEPS:
            raise TooLong(None)
        self.steps = self.steps + 1
        if node[0] == "call":
            body = self.run.body_of_def(node[1], node[2], handed)
        else:
            body = self.run.body_of_deed(node[1], node[2], handed)
        self.wait_for(body[1], dict(zip(body[0], args)), body[2])


# Each of the two classes beneath tells what is gone into, by body_of_def and
# body_of_deed: a tuple of names, an expression, and what is handed on to it.
class Run:
    def __init__(self, asks):
        self.asks = asks

    def asked(self, number):
        going = Going(self)
        going.wait_for(self.asks[number], {}, [])
        value = going.go_on()
        return (value, going.steps)


class ByKinds(Run):
    # A kind may grow at each step, and one part may stand in it again and again:
    # so what is handed on is put into kinds, but never gone through itself.
    def __init__(self, found):
        self.ground = found.lore()
        # By rows: names, and the expression with the kinds for open ones at its calls.
        self.bodies = {}
        self.defs = {}
        asks = []
        for number, row in enumerate(self.ground.rows()):
            if row[0] == "ask":
                asks.append(with_puts(found, number))
            elif row[0] == "def" or row[0] == "once" or row[0] == "does":
                self.bodies[number] = (row[-2], with_puts(found, number))
            if row[0] == "def":
                self.defs[row[1]] = number
        Run.__init__(self, asks)

    def body_of_def(self, name, kinds, handed):
        body = self.bodies[self.defs[name]]
        places = dict(enumerate(handed))
        return (body[0], body[1], [put(kind, places) for kind in kinds])

    def body_of_deed(self, name, kind, handed):
        hand = put(kind, dict(enumerate(handed)))
        house = self.ground.house_of(self.ground.deed_of(name)[0], hand[0])
        row = self.ground.body_of(house, name)
        body = self.bodies[row]
        once = self.ground.rows()[row][0] == "once"
        return (body[0], body[1], [hand] if once else list(hand[1:]))


# A table is a tree whose given ones are put in. Elders are left to stand in it
# till it is asked for a deed: gone through at once, tables that grow at each
# step would be gone through without end.
def table_of(tree, tables):
    if tree is None:
        return None
    if tree[0] == "given":
        return tables[tree[1]]
    if tree[0] == "elder":
        return ("elder", tree[1], table_of(tree[2], tables))
    return ("house", tree[1], tuple([table_of(part, tables) for part in tree[2]]))


class ByTables(Run):
    def __init__(self, program):
        self.functions = dict(program[0])
        self.houses = {}
        for row, house in program[1].items():
            self.houses[row] = (dict(house[0]), dict(house[1]))
        Run.__init__(self, list(program[2]))

    def body_of_def(self, name, trees, handed):
        body = self.functions[name]
        return (body[1], body[2], [table_of(tree, handed) for tree in trees])

    def body_of_deed(self, name, tree, handed):
        table = self.house_table(table_of(tree, handed))
        body = self.houses[table[1]][1][name]
        return (body[1], body[2], [table] if body[0] else list(table[2]))

    def house_table(self, table):
        elders = []
        while table[0] == "elder":
            elders.append(table[1])
            table = table[2]
        while elders:
            tree = self.houses[table[1]][0][elders.pop()]
            table = table_of(tree, table[2])
        return table
