"""To which nodes of a ladder one comes down from a step up: sets of nodes are kept as the bits of a number."""

PART = 512


def falls_of(ladder, group, level):
    """For each group to which a step up leads, from a number above 0 on: the nodes to which one comes down from there,
    one below, at first, as the index of a list of nodes; and these lists. Nodes that lead to each other above 0, by the
    steps of level, make a group."""
    search = FallSearch(ladder, group, level)
    pending = {part: True for part in search.found}
    while pending:
        # Each round looks at the groups alone for which the one before has found something.
        pending = search.next_round(list(pending))
    kept = {}
    for base in search.returns:
        kept.setdefault(search.found.get(base, 0), len(kept))
    lists = [[search.landings[k] for k in bits_in(mask)] for mask in kept]
    return ({base: kept[search.found.get(base, 0)] for base in search.returns}, lists)


class FallSearch:
    """What is known so far of the nodes, those of landings, to which one comes down from each group."""

    def __init__(self, ladder, group, level):
        self.landings = sorted(set([after for afters in ladder.down for after in afters]))
        self.places = [group[node] for node in self.landings]
        # For each group, the groups from which a step leads to it that keeps the number, or that adds 1 to it.
        self.before = groups_before(level, group)
        self.callers = groups_before(ladder.up, group)
        self.found = {}
        bits = {node: 1 << k for k, node in enumerate(self.landings)}
        for node, afters in enumerate(ladder.down):
            for after in afters:
                self.found[group[node]] = self.found.get(group[node], 0) | bits[after]
        # For each group with a step up to it: where one comes down to at last, twice down, and by which nodes.
        self.returns = {base: 0 for base in self.callers}
        self.passed = {base: 0 for base in self.callers}
        self.comers = {}

    def next_round(self, pending):
        """Tell others what was found for some groups; the groups for which something is found by that."""
        grown = {}
        for part in pending:
            mask = self.found[part]
            for before in self.before.get(part, ()):
                self.grow(before, mask, grown)
            for base in self.comers.get(part, ()):
                self.come_back(base, mask, grown)
            if part in self.returns:
                for k in bits_in(mask & ~self.passed[part]):
                    comers = self.comers.setdefault(self.places[k], {})
                    comers[part] = True
                    self.come_back(part, self.found.get(self.places[k], 0), grown)
                self.passed[part] = mask
        return grown

    def grow(self, part, mask, grown):
        """From a group one comes down to these nodes, too."""
        known = self.found.get(part, 0)
        if mask & ~known:
            self.found[part] = known | mask
            grown[part] = True

    def come_back(self, base, mask, grown):
        """Behind a step up to a group and the way down one comes down to these nodes, too."""
        if mask & ~self.returns[base]:
            self.returns[base] = self.returns[base] | mask
            for caller in self.callers[base]:
                self.grow(caller, self.returns[base], grown)


def groups_before(steps, group):
    """For each group to which steps lead from others, or from itself, these, as a dict."""
    found = {}
    for node, afters in enumerate(steps):
        for after in afters:
            others = found.setdefault(group[after], {})
            others[group[node]] = True
    return found


def mask_of(places):
    """The number that has bits at these places."""
    parts = {}
    for place in places:
        k = place // PART
        parts[k] = parts.get(k, 0) | 1 << (place - k * PART)
    # A long number is changed as a whole for each bit: short ones come first.
    whole = 0
    for k in parts:
        whole = whole | parts[k] << (k * PART)
    return whole


def bits_in(mask):
    """The places of the bits of a number, ascending."""
    found = []
    while mask:
        low = mask & -mask
        found.append(low.bit_length() - 1)
        mask = mask - low
    return found
