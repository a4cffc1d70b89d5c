"""Fitting: the widest putting that makes both kinds of each pair the same."""

from kinddeeds.errors import TooGreat
from kinddeeds.kinds import opens_of

MOST_SIZE = 60


class Groups:
    # Kinds of the pairs, and kinds within them, that must become the same are
    # one group. They are kept as they were handed in, nothing is put into
    # them, so there are never more of them than the pairs hold.
    def __init__(self):
        self.aheads = {}

    # A group is led by a made kind, or where it has none by its least open one.
    def leader_of(self, kind):
        leader = kind
        while leader in self.aheads:
            leader = self.aheads[leader]
        # The road is made short, else long rows of kinds are gone again and again.
        while kind in self.aheads:
            ahead = self.aheads[kind]
            self.aheads[kind] = leader
            kind = ahead
        return leader

    def parts_of(self, leader):
        if isinstance(leader, int):
            return []
        return [self.leader_of(part) for part in leader[1:]]

    # False where one group would hold made kinds of other names or numbers of parts.
    def join_all(self, pairs):
        waiting = list(pairs)
        while waiting:
            pair = waiting.pop()
            one = self.leader_of(pair[0])
            other = self.leader_of(pair[1])
            if one == other:
                continue
            if isinstance(one, int) or isinstance(other, int):
                self.join_open(one, other)
            elif one[0] == other[0] and len(one) == len(other):
                self.aheads[one] = other
                waiting.extend(list(zip(one[1:], other[1:])))
            else:
                return False
        return True

    def join_open(self, one, other):
        if isinstance(one, int) and (isinstance(other, tuple) or other < one):
            self.aheads[one] = other
        else:
            self.aheads[other] = one


# The leaders of the open kinds' groups and of all that stand in these, each
# behind those of its parts; None where a group stands in itself. A ring without
# an open kind can't be: the least made kind in it would have a lesser one within.
def leaders_in_order(groups, opens):
    order = []
    # False while a group's parts are being walked, True when they are done.
    done = {}
    waiting = [groups.leader_of(kind) for kind in opens]
    while waiting:
        leader = waiting[-1]
        if leader in done:
            waiting.pop()
            if not done[leader]:
                done[leader] = True
                order.append(leader)
            continue
        done[leader] = False
        for part in groups.parts_of(leader):
            if part not in done:
                waiting.append(part)
            elif not done[part]:
                return None
    return order


# Each of these groups stands in what is put for some open kind, so one that is
# too great is enough to refuse, and nothing greater is ever built.
def kinds_by_leader(groups, order):
    kinds = {}
    sizes = {}
    for leader in order:
        parts = groups.parts_of(leader)
        size = 1 + sum([sizes[part] for part in parts])
        if size > MOST_SIZE:
            raise TooGreat(None)
        sizes[leader] = size
        if isinstance(leader, int):
            kinds[leader] = leader
        else:
            kinds[leader] = (leader[0],) + tuple([kinds[part] for part in parts])
    return kinds


def opens_of_pairs(pairs):
    opens = {}
    for pair in pairs:
        for kind in pair:
            for found in opens_of(kind):
                opens[found] = True
    return sorted(opens)


def fitted(pairs):
    groups = Groups()
    if not groups.join_all(pairs):
        return None
    opens = opens_of_pairs(pairs)
    order = leaders_in_order(groups, opens)
    if order is None:
        return None
    kinds = kinds_by_leader(groups, order)
    places = {}
    for kind in opens:
        leader = groups.leader_of(kind)
        if leader != kind:
            places[kind] = kinds[leader]
    return places
