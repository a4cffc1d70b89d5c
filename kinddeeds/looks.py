"""The looks at a whole program, in their order: each refuses at the first row that has its fault."""

from kinddeeds.errors import Lacks, Miscount, NoHouse, NoSuch, Open, Ring, Twice
from kinddeeds.kinds import kinds_within, opens_of
from kinddeeds.rows import OWN_FUNCTIONS, OWN_KINDS, told_by


def told_of_itself():
    told = {}
    for row in OWN_KINDS:
        for thing in told_by(row):
            told[thing] = True
    for name in OWN_FUNCTIONS:
        told[("function", name)] = True
    return told


def first_told_twice(rows):
    told = told_of_itself()
    for number, row in enumerate(rows):
        for thing in told_by(row):
            if thing in told:
                return number
            told[thing] = True
    return None


def row_kinds(row):
    if row[0] == "deed":
        return list(row[3]) + [row[4]]
    kinds = []
    if row[0] == "kind":
        for form in row[3]:
            kinds.extend(form[1])
    return kinds


def made_kinds(row):
    made = []
    for kind in row_kinds(row):
        made.extend([part for part in kinds_within(kind) if isinstance(part, tuple)])
    return made


def kinds_named(row):
    if row[0] == "house":
        return [row[2]]
    return [made[0] for made in made_kinds(row)]


def classes_named(row):
    if row[0] == "class":
        return list(row[2])
    if row[0] == "deed":
        return [row[2]]
    if row[0] == "house":
        return [row[1]] + [need for need in row[3] if need is not None]
    return []


def names_no_deed(lore, row):
    if row[0] == "once":
        return lore.deed_of(row[1]) is None
    if row[0] != "does":
        return False
    deed = lore.deed_of(row[3])
    return lore.house_of(row[1], row[2]) is None or deed is None or deed[0] != row[1]


def names_nothing(lore, row):
    if any([lore.many_of(name) is None for name in kinds_named(row)]):
        return True
    if any([lore.elders_of(name) is None for name in classes_named(row)]):
        return True
    return names_no_deed(lore, row)


def is_miscounted(lore, row):
    if row[0] == "house":
        return len(row[3]) != lore.many_of(row[2])
    if row[0] == "once":
        return len(row[2]) != len(lore.deed_of(row[1])[1])
    if row[0] == "does":
        return len(row[4]) != len(lore.deed_of(row[3])[1])
    return any([len(made) - 1 != lore.many_of(made[0]) for made in made_kinds(row)])


def is_in_ring(lore, row):
    return row[0] == "class" and row[1] in lore.far_elders(row[1])


def leaves_kind_out(lore, row):
    # 0 is the one open kind that a deed row may have.
    return row[0] == "deed" and not any([opens_of(kind) for kind in row_kinds(row)])


def lacks_body(lore, row):
    if row[0] != "house":
        return False
    number = lore.house_of(row[1], row[2])
    return any([lore.body_of(number, deed) is None for deed in lore.deeds_of(row[1])])


def follows(lore, need, own):
    if need is None or need == own:
        return True
    return own is not None and need in lore.far_elders(own)


def lacks_elder_house(lore, row):
    if row[0] != "house":
        return False
    for elder in lore.elders_of(row[1]):
        number = lore.house_of(elder, row[2])
        if number is None:
            return True
        if not all([follows(lore, need, own) for need, own in zip(lore.needs_of(number), row[3])]):
            return True
    return False


def first_row(lore, has_fault):
    for number, row in enumerate(lore.rows()):
        if has_fault(lore, row):
            return number
    return None


# Each look takes for granted what those ahead of it rule out: only the first
# two may come upon names of nothing, only the first four upon rings of elders.
def look_at(lore):
    row = first_told_twice(lore.rows())
    if row is not None:
        raise Twice((row, 0))
    row = first_row(lore, names_nothing)
    if row is not None:
        raise NoSuch((row, 0))
    row = first_row(lore, is_miscounted)
    if row is not None:
        raise Miscount((row, 0))
    row = first_row(lore, is_in_ring)
    if row is not None:
        raise Ring((row, 0))
    row = first_row(lore, leaves_kind_out)
    if row is not None:
        raise Open((row, 0))
    row = first_row(lore, lacks_body)
    if row is not None:
        raise Lacks((row, 0))
    row = first_row(lore, lacks_elder_house)
    if row is not None:
        raise NoHouse((row, 0))
