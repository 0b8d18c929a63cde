"""Nodes with a number that goes up and down by one, and ways through them."""

from forkyields.progressions import holds
from forkyields.searches import spread_over, turned_round


class Ladder:
    """Nodes, counted from 0, and the steps between them; node 0 with the number 0 is the beginning.

    Each of the lists of steps has, for each node, the nodes to which a step leads: level keeps the number, ground
    keeps it if it is 0, above if it is not, up adds 1 to it, and down takes 1 from a number that is not 0.
    For each node to which rises lead, rises has the nodes in the midst of them, from the last one back.
    """

    def __init__(self):
        self.nodes = []
        self.known = {}
        self.level = []
        self.ground = []
        self.above = []
        self.up = []
        self.down = []
        self.rises = {}

    def node_for(self, name):
        """The node of this name, a new one if there is none."""
        if name not in self.known:
            self.known[name] = len(self.nodes)
            self.nodes.append(name)
            for steps in (self.level, self.ground, self.above, self.up, self.down):
                steps.append([])
        return self.known[name]

    def rise(self, node, told, target):
        """Lead from a node to another one, the number growing by any member of told."""
        early, repeats, period = told
        for many in early:
            self.level[node].append(self.climb(many, target))
        if repeats:
            turn = self.turn(told, target)
            self.level[node].append(turn)

    def climb(self, many, target):
        """The node from which the number grows by so many, with no other way than to the target."""
        if many == 0:
            return target
        rises = self.rises.setdefault(target, [])
        begin = len(rises)
        for rest in range(begin, many):
            node = self.node_for(("more", rest + 1, target))
            self.up[node].append(rises[-1] if rises else target)
            rises.append(node)
        return rises[many - 1]

    def turn(self, told, target):
        """The node from which the number grows by any member of told that repeats, with no way but to the target."""
        _, repeats, period = told
        name = ("turn", repeats, period, target)
        if name in self.known:
            return self.known[name]
        turn = self.node_for(name)
        for many in repeats:
            self.level[turn].append(self.climb(many, target))
        rest = self.climb(period - 1, turn)
        self.up[turn].append(rest)
        return turn

    def fall(self, node, target, marked):
        """Lead from a node to another one, the number falling by 1, to one that is not 0 if marked."""
        if not marked:
            self.down[node].append(target)
            return
        still = self.node_for(("still", target))
        if not self.above[still]:
            self.above[still].append(target)
        self.down[node].append(still)

    def steps_above(self):
        """For each node, the nodes to which steps lead that keep a number above 0."""
        return [level + above for level, above in zip(self.level, self.above)]

    def steps_from(self, node, number):
        """The steps from a node with a number, as pairs of a node and a number."""
        same = self.level[node] + (self.above[node] if number else self.ground[node])
        lower = [(after, number - 1) for after in self.down[node]] if number else []
        return [(after, number) for after in same] + lower + [(after, number + 1) for after in self.up[node]]


def leading_to(ladder, goals):
    """For each node, whether some steps lead from it to one of the goals, whatever the numbers."""
    kept = [level + ground for level, ground in zip(ladder.steps_above(), ladder.ground)]
    steps = [same + up + down for same, up, down in zip(kept, ladder.up, ladder.down)]
    found = {node: True for node in spread_over(turned_round(steps), goals)}
    return [node in found for node in range(len(ladder.nodes))]


def way_to(ladder, goals):
    """A shortest way from the beginning to a goal, as pairs (node, number); goals has a number set for each of some
    nodes, and there is a way to one of these numbers."""
    useful = leading_to(ladder, list(goals))
    came = {(0, 0): None}
    reached = [(0, 0)]
    done = 0
    while done < len(reached):
        node, number = reached[done]
        if node in goals and holds(goals[node], number):
            return way_back(came, reached[done])
        for after in ladder.steps_from(node, number):
            if useful[after[0]] and after not in came:
                came[after] = reached[done]
                reached.append(after)
        done = done + 1
    return []


def way_back(came, last):
    """The way that leads to the last pair, each pair of it having come from the one before."""
    way = []
    while last is not None:
        way.append(last)
        last = came[last]
    return way[::-1]
