"""Kinds: what is one, how great it is, its open ones, and putting kinds in their place."""

MOST_LETTERS = 8
MOST_PARTS = 3
MOST_SIZE = 24


def is_name(thing):
    if not isinstance(thing, str):
        return False
    if len(thing) < 1 or len(thing) > MOST_LETTERS:
        return False
    return all(["a" <= sign <= "z" for sign in thing])


def is_whole(thing):
    # To Python True and False are numbers, to the program they are none.
    return isinstance(thing, int) and not isinstance(thing, bool)


def is_open_kind(thing):
    return is_whole(thing) and thing >= 0


def has_made_form(thing):
    # The parts are not looked at here: they may be anything, nested to any depth.
    if not isinstance(thing, tuple):
        return False
    if len(thing) < 1 or len(thing) > 1 + MOST_PARTS:
        return False
    return is_name(thing[0])


def is_kind(thing):
    # The count ends the walk at the bound, however deep the thing is nested
    # and however often one tuple stands in it.
    waiting = [thing]
    size = 0
    while waiting:
        size = size + 1
        if size > MOST_SIZE:
            return False
        part = waiting.pop()
        if has_made_form(part):
            waiting.extend(part[1:])
        elif not is_open_kind(part):
            return False
    return True


def kinds_within(kind):
    # Each ahead of its parts, these from the left; by a list in the place of
    # recursion, since a kind may be nested some hundred deep.
    within = []
    waiting = [kind]
    while waiting:
        part = waiting.pop()
        within.append(part)
        if isinstance(part, tuple):
            waiting.extend(list(reversed(part[1:])))
    return within


def size_of(kind):
    return len(kinds_within(kind))


def opens_of(kind):
    # A dict keeps the order in which its keys first came.
    opens = {}
    for part in kinds_within(kind):
        if isinstance(part, int):
            opens[part] = True
    return list(opens)


def put(kind, places):
    # Walked from the last one on, the parts of a kind are there ahead of it,
    # and the leftmost of them was come to last.
    done = []
    for part in reversed(kinds_within(kind)):
        if isinstance(part, int):
            done.append(places.get(part, part))
        else:
            parts = [done.pop() for old in part[1:]]
            done.append((part[0],) + tuple(parts))
    return done.pop()
