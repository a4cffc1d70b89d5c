"""Things that several tests build, and a fitting written the long way to hold the program's against."""

from random import Random


def chain(size, end=("z",)):
    """A kind of this size (with an end of size 1) in which each made kind has one part."""
    kind = end
    for step in range(size - 1):
        kind = ("a", kind)
    return kind


def bushy(size):
    """A closed kind of this size, three parts wherever there is room."""
    if size == 1:
        return ("z",)
    left = size - 1
    parts = []
    for place in range(min(3, left)):
        share = left // (min(3, size - 1) - place)
        parts.append(bushy(share))
        left = left - share
    return ("b",) + tuple(parts)


def size(kind):
    return 1 if isinstance(kind, int) else 1 + sum(size(part) for part in kind[1:])


def opens(kind):
    return {kind} if isinstance(kind, int) else set().union(*[opens(part) for part in kind[1:]])


def changed(kind, places):
    if isinstance(kind, int):
        return places.get(kind, kind)
    return (kind[0],) + tuple(changed(part, places) for part in kind[1:])


def slowly_fitted(pairs):
    """The putting of [6], without its bound on sizes: one open kind after the other is put into all."""
    waiting = list(pairs)
    places = {}
    while waiting:
        one, other = waiting.pop(0)
        if one == other:
            continue
        if isinstance(one, tuple) and isinstance(other, tuple):
            if one[0] != other[0] or len(one) != len(other):
                return None
            waiting = list(zip(one[1:], other[1:])) + waiting
            continue
        if isinstance(one, tuple) or (isinstance(other, int) and one < other):
            one, other = other, one
        if one in opens(other):
            return None
        step = {one: other}
        waiting = [(changed(a, step), changed(b, step)) for a, b in waiting]
        places = {kind: changed(places[kind], step) for kind in places}
        places[one] = other
    return places


def some_kind(random, depth, many_opens):
    if depth == 0 or random.randrange(3) == 0:
        if random.randrange(4):
            return random.randrange(many_opens)
        return (random.choice(["p", "q"]),)
    parts = [some_kind(random, depth - 1, many_opens) for part in range(random.randrange(4))]
    return (random.choice(["p", "p", "q"]),) + tuple(parts)


def some_closed_kind(random, depth):
    if depth == 0:
        return (random.choice(["p", "q"]),)
    parts = [some_closed_kind(random, random.randrange(depth)) for part in range(random.randrange(4))]
    return (random.choice(["p", "q"]),) + tuple(parts)


def chance(seed):
    """The same row of numbers at each run."""
    return Random(seed)


class Odd:
    """A thing that lets nothing be done with it."""

    def fail(self, *args):
        raise RuntimeError("touched")

    __eq__ = __ne__ = __lt__ = __le__ = __gt__ = __ge__ = fail
    __hash__ = __len__ = __bool__ = __iter__ = __getitem__ = __contains__ = __repr__ = __str__ = fail
    __int__ = __index__ = __add__ = __getattr__ = fail


class TextOfItsOwn(str):
    pass


def ring_of_lists():
    ring = []
    ring.append(ring)
    return ring


def neither_name_nor_kind():
    """Things of many kinds that are neither; made anew for each test."""
    ring = ring_of_lists()
    return [
        None, True, False, -1, -2, -10 ** 400, 0.0, 1.5, float("nan"), float("inf"), 1j,
        b"whole", bytearray(b"a"), [], ["a"], [0], {}, {"a": 0}, {0: 1}, set(), {"a"}, frozenset(["a"]),
        (), ((),), (0,), (None,), (True,), (("a",),), (["a"],), ("a", None), range(3), iter(["a"]),
        len, int, str, tuple, lambda: 0, object(), ValueError("a"), NotImplemented, ..., Odd(), (Odd(),),
        ("a", Odd()), ring, ("a", ring), (ring,),
    ]
