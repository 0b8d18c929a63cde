"""Which nodes of a ladder have which numbers, number by number.

The nodes in the midst of rises may be many, and each has one step alone, up: sets of them are kept as the bits of a
number, those of one rise side by side, so that all do their step at once.
"""

from forkyields.falls import bits_in, falls_of, mask_of
from forkyields.progressions import gathered
from forkyields.searches import groups_of


class Levels:
    """The steps of a ladder, as needed to come from the nodes with one number to those with the next one."""

    def __init__(self, ladder):
        self.places = {}
        self.ends = {}
        for target in ladder.rises:
            self.ends[len(self.places)] = target
            for node in ladder.rises[target]:
                self.places[node] = len(self.places)
        self.lasts = mask_of(list(self.ends))
        level = ladder.steps_above()
        group = groups_of(level)
        bases, self.lists = falls_of(ladder, group, level)
        self.falls = [sorted(set([bases[group[after]] for after in afters])) for afters in ladder.up]
        self.parts = self.parts_by_falls()
        # For each node the nodes to which steps lead, and the mask of those in the midst of rises.
        self.high = [self.parted(afters) for afters in level]
        self.low = [self.parted(afters + ground) for afters, ground in zip(ladder.level, ladder.ground)]
        self.up = [self.parted(afters) for afters in ladder.up]

    def parts_by_falls(self):
        """For each list of nodes to which one falls, the mask of the nodes in the midst of rises that lead to it."""
        places = {}
        for node in self.places:
            for k in self.falls[node]:
                if self.lists[k]:
                    known = places.setdefault(k, [])
                    known.append(self.places[node])
        return {k: mask_of(places[k]) for k in places}

    def parted(self, nodes):
        """The nodes that are not in the midst of rises, and the mask of the others."""
        others = [node for node in nodes if node not in self.places]
        if len(others) == len(nodes):
            return (others, 0)
        return (others, mask_of([self.places[node] for node in nodes if node in self.places]))

    def all_at(self, level, steps):
        """All nodes with a number, from some of them on, by these steps and by ways up and down again; level is a pair
        of nodes and a mask."""
        first, mask = level
        found = {node: True for node in first}
        done = {}
        pending = list(found)
        while pending or self.fallen(mask, done):
            if not pending:
                pending = self.landed(self.fallen(mask, done), found, done)
            else:
                node = pending.pop()
                afters, bits = steps[node]
                mask = mask | bits
                pending.extend(met_first(afters, found))
                pending.extend(self.landed([k for k in self.falls[node] if k not in done], found, done))
        return (tuple(sorted(set(found))), mask)

    def fallen(self, mask, done):
        """The lists to which one falls from nodes of a mask, but for those that are done."""
        return [k for k in self.parts if k not in done and mask & self.parts[k]]

    def landed(self, ks, found, done):
        """The nodes of these lists that were not found before; the lists are done then."""
        landed = []
        for k in ks:
            done[k] = True
            landed.extend(met_first(self.lists[k], found))
        return landed

    def risen(self, level):
        """The nodes to which steps up lead from a level, as a pair of nodes and a mask."""
        nodes, mask = level
        found = {self.ends[place]: True for place in bits_in(mask & self.lasts)}
        rising = (mask & ~self.lasts) >> 1
        for node in nodes:
            afters, bits = self.up[node]
            rising = rising | bits
            met_first(afters, found)
        return (list(found), rising)


def met_first(nodes, found):
    """The nodes that were not found before; they are then."""
    new = [node for node in nodes if node not in found]
    for node in new:
        found[node] = True
    return new


def levels_of(ladder):
    """For each number the nodes that have it, but for those in the midst of rises, until all repeats; and where that
    begins."""
    steps = Levels(ladder)
    level = steps.all_at(([0], 0), steps.low)
    met = {}
    levels = []
    while level not in met:
        met[level] = len(levels)
        levels.append(level[0])
        # What is possible above 0 is the same at each number, so the nodes with one number tell those with the next.
        level = steps.all_at(steps.risen(level), steps.high)
    return (levels, met[level])


def numbers_by_node(ladder):
    """For each node that has some, but for those in the midst of rises, the number set of its numbers."""
    levels, begin = levels_of(ladder)
    period = len(levels) - begin
    early, starts = {}, {}
    for number, nodes in enumerate(levels):
        kept = early if number < begin else starts
        for node in nodes:
            numbers = kept.setdefault(node, [])
            numbers.append(number)
    found = [*early, *[node for node in starts if node not in early]]
    return {node: gathered(early.get(node, []), starts.get(node, []), period) for node in found}
