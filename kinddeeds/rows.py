"""Rows: what an expression is, what a program is, and what each row tells."""

from kinddeeds.errors import NoProgram
from kinddeeds.kinds import MOST_LETTERS, MOST_PARTS, is_kind, is_name, is_whole, opens_of

MOST_ROWS = 40
MOST_NODES = 40
MOST_ABOVE = 11
MOST_FORMS = 4
LENGTHS = {"kind": 4, "class": 3, "deed": 5, "once": 4, "house": 4, "does": 6, "def": 4, "ask": 2}

# What is there of itself: the kinds as rows would tell them, and the functions' names.
OWN_KINDS = (("kind", "whole", 0, ()), ("kind", "truth", 0, (("No", ()), ("Yes", ()))))
OWN_FUNCTIONS = ("plus", "minus", "under")


def is_form_name(thing):
    if not isinstance(thing, str):
        return False
    if len(thing) < 1 or len(thing) > MOST_LETTERS:
        return False
    return "A" <= thing[0] <= "Z" and all(["a" <= sign <= "z" for sign in thing[1:]])


def is_number(thing):
    # The least number of 61 figures is the bound.
    return is_whole(thing) and abs(thing) < 10 ** 60


def is_few(thing):
    return isinstance(thing, tuple) and len(thing) <= MOST_PARTS


def is_few_of(thing, is_one):
    return is_few(thing) and all([is_one(part) for part in thing])


def is_unlike_names(thing):
    return is_few_of(thing, is_name) and len(set(thing)) == len(thing)


def is_one_to_four(thing):
    return isinstance(thing, tuple) and 1 <= len(thing) <= MOST_FORMS


def has_sort(thing):
    # Only a text is asked for its sort: other things may not let themselves be compared.
    return isinstance(thing, tuple) and len(thing) > 0 and isinstance(thing[0], str)


def has_arm_form(thing):
    if not isinstance(thing, tuple) or len(thing) != 3:
        return False
    return is_form_name(thing[0]) and is_unlike_names(thing[1])


def has_node_form(thing):
    # The parts are not looked at here: they may be anything, nested to any depth.
    if not has_sort(thing):
        return False
    sort = thing[0]
    if sort == "number":
        return len(thing) == 2 and is_number(thing[1])
    if sort == "name":
        return len(thing) == 2 and is_name(thing[1])
    if len(thing) != 3:
        return False
    if sort == "form":
        return is_form_name(thing[1]) and is_few(thing[2])
    if sort == "call":
        return is_name(thing[1]) and is_few(thing[2])
    return sort == "case" and is_one_to_four(thing[2]) and all([has_arm_form(arm) for arm in thing[2]])


def node_parts(node):
    if node[0] == "form" or node[0] == "call":
        return list(node[2])
    if node[0] == "case":
        return [node[1]] + [arm[2] for arm in node[2]]
    return []


def is_expression(thing):
    # The counts end the walk at the bounds, however deep the thing is nested
    # and however often one tuple stands in it.
    waiting = [(thing, 0)]
    nodes = 0
    while waiting:
        nodes = nodes + 1
        pair = waiting.pop()
        part = pair[0]
        above = pair[1]
        if nodes > MOST_NODES or above > MOST_ABOVE or not has_node_form(part):
            return False
        waiting.extend([(inner, above + 1) for inner in node_parts(part)])
    return True


def nodes_of(expression):
    nodes = []
    waiting = [expression]
    while waiting:
        node = waiting.pop()
        nodes.append(node)
        waiting.extend(list(reversed(node_parts(node))))
    return nodes


def is_kind_below(thing, many):
    return is_kind(thing) and all([number < many for number in opens_of(thing)])


def is_few_kinds(thing, many):
    return is_few_of(thing, lambda part: is_kind_below(part, many))


def is_form(thing, many):
    if not isinstance(thing, tuple) or len(thing) != 2:
        return False
    return is_form_name(thing[0]) and is_few_kinds(thing[1], many)


def is_kind_row(row):
    many = row[2]
    if not is_name(row[1]) or not is_whole(many) or many < 0 or many > MOST_PARTS:
        return False
    return is_one_to_four(row[3]) and all([is_form(form, many) for form in row[3]])


def is_deed_row(row):
    # The one open kind of a deed is 0, the kind at hand.
    return is_name(row[1]) and is_name(row[2]) and is_few_kinds(row[3], 1) and is_kind_below(row[4], 1)


def is_need(thing):
    return thing is None or is_name(thing)


def is_body_row(row):
    # Once, does and def rows all end in names and an expression; names alone stand ahead of these.
    return all([is_name(part) for part in row[1:-2]]) and is_unlike_names(row[-2]) and is_expression(row[-1])


def is_row(thing):
    if not has_sort(thing) or LENGTHS.get(thing[0]) != len(thing):
        return False
    sort = thing[0]
    if sort == "kind":
        return is_kind_row(thing)
    if sort == "class":
        return is_name(thing[1]) and is_few_of(thing[2], is_name)
    if sort == "deed":
        return is_deed_row(thing)
    if sort == "house":
        return is_name(thing[1]) and is_name(thing[2]) and is_few_of(thing[3], is_need)
    if sort == "ask":
        return is_expression(thing[1])
    return is_body_row(thing)


def checked(thing):
    if not isinstance(thing, list) or len(thing) > MOST_ROWS:
        raise NoProgram(None)
    for number, row in enumerate(thing):
        if not is_row(row):
            raise NoProgram((number, 0))
    return list(thing)


# What a row tells, each under a tuple of its own: a program may tell none of these twice.
def told_by(row):
    sort = row[0]
    if sort == "kind":
        return [("kind", row[1])] + [("form", form[0]) for form in row[3]]
    if sort == "class":
        return [("class", row[1])]
    if sort == "deed" or sort == "def":
        return [("function", row[1])]
    if sort == "once":
        return [("once", row[1])]
    if sort == "house":
        return [("house", row[1], row[2])]
    if sort == "does":
        return [("does", row[1], row[2], row[3])]
    return []
