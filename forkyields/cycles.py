"""Cycles on which numbers grow; rises has, for each node, pairs of a node to which a step leads and what it adds."""


def rising_cycle(rises):
    """A cycle of steps that add more than 0 together, which is there: pairs (node, what was added so far), from where
    it is lowest on."""
    best = [0 for node in rises]
    came = [() for node in rises]
    while True:
        for node, steps in enumerate(rises):
            for after, by in steps:
                if best[node] + by > best[after]:
                    best[after] = best[node] + by
                    came[after] = (node, by)
        # Who came from where closes to a cycle only if its steps add more than 0.
        cycle = cycle_among(came)
        if cycle:
            return from_lowest(cycle)


def cycle_among(came):
    """A cycle of nodes that came from each other, as pairs (node, what the step to it adds), or []."""
    met = {}
    for first in range(len(came)):
        node = first
        while node not in met and came[node]:
            met[node] = first
            node = came[node][0]
        # A walk that ends where it was itself goes round; others end where they came from nowhere, or met an older one.
        if met.get(node, -1) == first:
            return cycle_back(came, node)
    return []


def cycle_back(came, last):
    """The cycle through a node, each one having come from the one before, as pairs (node, what the step to it adds)."""
    cycle = [(last, came[last][1])]
    node = came[last][0]
    while node != last:
        cycle.append((node, came[node][1]))
        node = came[node][0]
    return cycle[::-1]


def from_lowest(cycle):
    """The cycle as pairs (node, what was added so far), begun where that is least, and ended there again."""
    sums = []
    total = 0
    for node, by in cycle:
        total = total + by
        sums.append(total)
    k = sums.index(sorted(set(sums))[0])
    turn = [(cycle[k][0], 0)]
    for node, by in [*cycle[k + 1:], *cycle[:k + 1]]:
        turn.append((node, turn[-1][1] + by))
    return turn
