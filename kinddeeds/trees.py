"""Trees: how a need, a class at a kind, is met by houses and by needs that are given."""


def serves(lore, cls, sought):
    return cls == sought or sought in lore.far_elders(cls)


# Each step is to an elder that is told, and there are no rings, so it comes to an end.
def tree_by_elders(lore, tree, cls, sought):
    while cls != sought:
        cls = [elder for elder in lore.elders_of(cls) if serves(lore, elder, sought)][0]
        tree = ("elder", cls, tree)
    return tree


def tree_by_given(lore, given, cls, kind):
    for number, need in enumerate(given):
        if need is not None and need[1] == kind and serves(lore, need[0], cls):
            return tree_by_elders(lore, ("given", number), need[0], cls)
    return None


def tree_by(lore, given, cls, kind):
    if isinstance(kind, int):
        return tree_by_given(lore, given, cls, kind)
    row = lore.house_of(cls, kind[0])
    if row is None:
        return None
    trees = []
    for need, part in zip(lore.needs_of(row), kind[1:]):
        # None in a tree says that nothing is needed, so a need that nothing meets must end it all.
        tree = None if need is None else tree_by(lore, given, need, part)
        if need is not None and tree is None:
            return None
        trees.append(tree)
    return ("house", row, tuple(trees))


# Of a closed kind no need comes to an open one, so nothing that is given could serve.
def tree_of(lore, cls, kind):
    return tree_by(lore, [], cls, kind)


# The needs that are given in a house: each at its part, an open kind of the part's number.
def given_in_house(lore, row):
    return [None if need is None else (need, part) for part, need in enumerate(lore.needs_of(row))]


def elder_tree(lore, row, elder):
    given = given_in_house(lore, row)
    kind = (lore.rows()[row][2],) + tuple(range(len(given)))
    return tree_by(lore, given, elder, kind)


def closed(lore, tree, trees):
    if tree is None:
        return None
    if tree[0] == "given":
        return trees[tree[1]]
    if tree[0] == "house":
        return ("house", tree[1], tuple([closed(lore, part, trees) for part in tree[2]]))
    house = closed(lore, tree[2], trees)
    return closed(lore, elder_tree(lore, house[1], tree[1]), house[2])
