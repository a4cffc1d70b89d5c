"""Lore: what the rows of a program tell of its kinds, classes, deeds and houses."""

from kinddeeds.looks import look_at
from kinddeeds.rows import OWN_KINDS, checked, told_by


class Lore:
    def __init__(self, program):
        self.program = checked(program)
        # By each thing that is told: the row that tells it, and this row's number.
        # What is there of itself has no number.
        self.tellers = {}
        self.numbers = {}
        for row in OWN_KINDS:
            self.keep_told(row)
        for number, row in enumerate(self.program):
            self.keep_told(row)
            for thing in told_by(row):
                self.numbers[thing] = number
        look_at(self)

    def keep_told(self, row):
        for thing in told_by(row):
            self.tellers[thing] = row

    def rows(self):
        return list(self.program)

    def many_of(self, kind):
        row = self.tellers.get(("kind", kind))
        return None if row is None else row[2]

    def forms_of(self, kind):
        row = self.tellers.get(("kind", kind))
        return None if row is None else list(row[3])

    def kind_of_form(self, form):
        row = self.tellers.get(("form", form))
        return None if row is None else row[1]

    def elders_of(self, cls):
        row = self.tellers.get(("class", cls))
        return None if row is None else list(row[2])

    def far_elders(self, cls):
        waiting = self.elders_of(cls)
        if waiting is None:
            return None
        # Each is gone into once, so that a ring, which is refused only then, comes to an end.
        found = {}
        while waiting:
            elder = waiting.pop()
            if elder not in found:
                found[elder] = True
                waiting.extend(self.elders_of(elder))
        return [row[1] for row in self.program if row[0] == "class" and row[1] in found]

    def deed_of(self, name):
        row = self.tellers.get(("function", name))
        if row is None or row[0] != "deed":
            return None
        return (row[2], row[3], row[4])

    def deeds_of(self, cls):
        if ("class", cls) not in self.tellers:
            return None
        return [row[1] for row in self.program if row[0] == "deed" and row[2] == cls]

    def house_of(self, cls, kind):
        return self.numbers.get(("house", cls, kind))

    def house_at(self, number):
        if number < 0 or number >= len(self.program):
            return None
        row = self.program[number]
        return row if row[0] == "house" else None

    def needs_of(self, row):
        house = self.house_at(row)
        return None if house is None else house[3]

    def body_of(self, row, deed):
        house = self.house_at(row)
        if house is None or deed not in self.deeds_of(house[1]):
            return None
        own = self.numbers.get(("does", house[1], house[2], deed))
        return self.numbers.get(("once", deed)) if own is None else own
