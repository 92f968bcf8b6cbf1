"""Deeds: each turns a layout into another one."""


class Deed:
    def __init__(self, name):
        self.name = name

    def done(self, layout):
        behind = dict([(name, list(wiring)) for name, wiring in layout.items()])
        for name, wiring in self.newly_laid():
            behind[name] = list(wiring)
        return behind

    def laid_anew(self):
        return sorted(set([name for name, wiring in self.newly_laid()]))

    def newly_laid(self):
        return []


class Lay(Deed):
    def __init__(self, name, wiring):
        Deed.__init__(self, name)
        self.wiring = list(wiring)

    def newly_laid(self):
        return [(self.name, self.wiring)]


class Swap(Deed):
    def __init__(self, name, wiring, others):
        Deed.__init__(self, name)
        self.wiring = list(wiring)
        self.swapped = [(other, list(wires)) for other, wires in others]

    def newly_laid(self):
        return [(self.name, self.wiring)] + self.swapped


class Better(Deed):
    def __init__(self, name, wiring):
        Deed.__init__(self, name)
        self.wiring = list(wiring)

    def newly_laid(self):
        return [(self.name, self.wiring)]
