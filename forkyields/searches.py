"""Searches over nodes that are counted from 0; steps has, for each node, the nodes to which a step leads."""


def spread_over(steps, first):
    """All nodes to which these steps lead from the first ones, themselves among them, ascending."""
    found = {node: True for node in first}
    pending = list(found)
    while pending:
        node = pending.pop()
        for after in steps[node]:
            if after not in found:
                found[after] = True
                pending.append(after)
    return tuple(sorted(set(found)))


def turned_round(steps):
    """The steps backwards: for each node, the nodes from which one leads to it."""
    back = [[] for node in steps]
    for node, afters in enumerate(steps):
        for after in afters:
            back[after].append(node)
    return back


def groups_of(steps):
    """For each node one that stands for its group: all that lead to it and to which it leads."""
    back = turned_round(steps)
    group = {}
    for first in left_in_order(steps)[::-1]:
        pending = [first]
        while pending:
            node = pending.pop()
            if node not in group:
                group[node] = first
                pending.extend(back[node])
    return [group[node] for node in range(len(steps))]


def left_in_order(steps):
    """All nodes in the order in which a search that goes into the depth first leaves them for good."""
    order = []
    met = {}
    for first in range(len(steps)):
        pending = [(first, False)]
        while pending:
            node, leaves = pending.pop()
            if leaves:
                order.append(node)
            elif node not in met:
                met[node] = True
                pending.append((node, True))
                pending.extend([(after, False) for after in steps[node] if after not in met])
    return order
