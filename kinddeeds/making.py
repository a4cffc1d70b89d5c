"""Making: a program without kinds, in which trees stand for the tables that are handed on."""

from kinddeeds.rows import node_parts, nodes_of
from kinddeeds.trees import elder_tree


# The expression with, at its calls, what tells_at says of their nodes: () of the
# functions that are there of themselves, of which it says nothing.
def with_told(lore, expression, number, tells_at):
    parts = []
    below = number + 1
    for part in node_parts(expression):
        parts.append(with_told(lore, part, below, tells_at))
        below = below + len(nodes_of(part))
    if expression[0] == "form":
        return ("form", expression[1], tuple(parts))
    if expression[0] == "case":
        arms = [(arm[0], arm[1], part) for arm, part in zip(expression[2], parts[1:])]
        return ("case", parts[0], tuple(arms))
    if expression[0] == "call":
        return call_with_told(lore, expression[1], tells_at(number), tuple(parts))
    return expression


def call_with_told(lore, name, told, args):
    if told is None:
        return ("call", name, (), args)
    if lore.deed_of(name) is None:
        return ("call", name, told, args)
    return ("deed", name, told[0], args)


def with_trees(found, row):
    expression = found.lore().rows()[row][-1]
    return with_told(found.lore(), expression, 1, lambda node: found.trees_at(row, node))


def with_puts(found, row):
    expression = found.lore().rows()[row][-1]
    return with_told(found.lore(), expression, 1, lambda node: found.puts_at(row, node))


def made_house(found, row, cls):
    lore = found.lore()
    elders = {}
    for elder in lore.elders_of(cls):
        elders[elder] = elder_tree(lore, row, elder)
    deeds = {}
    for deed in lore.deeds_of(cls):
        number = lore.body_of(row, deed)
        body = lore.rows()[number]
        deeds[deed] = (body[0] == "once", body[-2], with_trees(found, number))
    return (elders, deeds)


def made(found):
    functions = {}
    houses = {}
    asks = []
    for number, row in enumerate(found.lore().rows()):
        if row[0] == "def":
            functions[row[1]] = (len(found.told(row[1])[2]), row[2], with_trees(found, number))
        elif row[0] == "house":
            houses[number] = made_house(found, number, row[1])
        elif row[0] == "ask":
            asks.append(with_trees(found, number))
    return (functions, houses, asks)
