"""A dig: a telling that changes."""

from digmatrix.errors import InUse, NoFind, NoTie, NoUnit, Twice


# A dict keeps the order in which its keys came, and the place of a key whose
# value is changed; so do the telling's lists.
class Dig:
    def __init__(self, first, last):
        self.frame = (first, last)
        self.units = {}
        self.ties = {}
        self.finds = {}

    def add_unit(self, name):
        if name in self.units:
            raise Twice()
        self.units[name] = True

    def drop_unit(self, name):
        self.seek_unit(name)
        if self.is_used(name):
            raise InUse()
        self.units.pop(name)

    def add_tie(self, tie):
        self.seek_unit(tie[1])
        self.seek_unit(tie[2])
        if tie in self.ties:
            raise Twice()
        self.ties[tie] = True

    def drop_tie(self, tie):
        if tie not in self.ties:
            raise NoTie()
        self.ties.pop(tie)

    def add_find(self, name, unit, low, high):
        if name in self.finds:
            raise Twice()
        self.seek_unit(unit)
        self.finds[name] = (name, unit, low, high)

    def move_find(self, name, unit):
        self.seek_find(name)
        self.seek_unit(unit)
        self.finds[name] = (name, unit) + self.finds[name][2:]

    def drop_find(self, name):
        self.seek_find(name)
        self.finds.pop(name)

    def telling(self):
        return (self.frame, list(self.units), list(self.ties), list(self.finds.values()))

    def seek_unit(self, name):
        if name not in self.units:
            raise NoUnit()

    def seek_find(self, name):
        if name not in self.finds:
            raise NoFind()

    def is_used(self, name):
        by_tie = any([name in tie[1:3] for tie in self.ties])
        return by_tie or any([name == find[1] for find in self.finds.values()])
