"""What all runs of the kinds of a system can bring, and ways to each number."""

from forkyields.accountparts import account_from, gains_from, tagged_account_from
from forkyields.ladders import Ladder, way_to
from forkyields.levels import numbers_by_node
from forkyields.progressions import holds
from forkyields.rules import NONE, moves_of
from forkyields.stateparts import any_alive, any_tagged, beginning, ended_many


class Plan:
    """The least tables of all kinds of a system, and those with a tag (the empty string for none)."""

    def __init__(self, system, tag):
        self.kinds = {kind[0]: kind for kind in system}
        self.tag = tag
        self.gains = {}
        self.ladders = {}
        self.tables = {}
        self.accounts = {}
        self.ends = {}
        for kind in system[::-1]:
            self.add_kind(kind)

    def add_kind(self, kind):
        """Find the table of a kind; those of all later ones are there."""
        name = kind[0]
        self.ladders[name] = ladder_of(self, kind)
        self.tables[name] = rows_from(self.ladders[name])
        rows = self.ending_rows(kind)
        account = account_from(kind, rows)
        tagged = tagged_account_from(kind, rows, self.tag)
        self.accounts[name] = (account, tagged)
        self.gains[name] = gains_from(account, tagged)

    def moves(self, kind, state, living):
        """The moves from a state of a kind."""
        return moves_of(kind, self.gains, self.tag, state, living)

    def ending_rows(self, kind):
        """The rows of a kind in which it can end."""
        return self.tables[kind[0]]

    def ways(self, name, goals):
        """A way to a goal, as a list of (state, number, living, marked); goals has number sets by (state, living,
        marked), and one of these numbers is there."""
        ladder = self.ladders[name]
        told = {ladder.known[goal]: goals[goal] for goal in goals if goal in ladder.known}
        pairs = [(ladder.nodes[node], number) for node, number in way_to(ladder, told)]
        return [(node[0], number, node[1], node[2]) for node, number in pairs if is_whole(node)]

    def has_number(self, name, state, number, living, marked):
        """Whether the kind comes to a state with this number, with a living child in its pool if living, with one
        that has the tag if marked."""
        rows = [row for row in self.tables[name] if row[0] == state]
        at = (1 if living else 0) + (2 if marked else 0)
        return any([holds(row[1 + at], number) for row in rows])

    def way_to_end(self, name, code, number, late, marked):
        """A way to where an end with this code brings a number of the account, unsettled for late 1, with the tag for
        marked 1; it is there."""
        wanted = (name, code, number, late, marked)
        if wanted not in self.ends:
            rows = self.ending_rows(self.kinds[name])
            self.ends[wanted] = self.ways(name, end_goals(self.kinds[name], rows, self.tag, wanted))
        return self.ends[wanted]


def tables_in(system, plan):
    """The tables of a plan, for each kind in order."""
    return tuple([plan.tables[kind[0]] for kind in system])


def end_goals(kind, rows, tag, wanted):
    """Where an end with a code brings a number of the account: number sets by (state, living, marked)."""
    _, code, number, late, marked = wanted
    goals = {}
    for row in rows:
        place, contents = row[0]
        rest = number - 1 - ended_many(contents)
        if code == 2 or kind[2][place] == ("exit", code):
            open_mark = marked == 1 and not any_tagged(kind, contents, tag)
            for living in living_at_end(contents, late):
                goals[(row[0], living, open_mark)] = ((rest,), (), 0)
    return goals


def living_at_end(contents, late):
    """Whether a child in the pool lives, as far as an end with these contents can be settled, or not for late 1."""
    if late == 0:
        return () if any_alive(contents) else (False,)
    return (False, True) if any_alive(contents) else (True,)


def is_whole(node):
    """Whether a name of a node is (state, living, marked), not one between two such."""
    return isinstance(node[0], tuple)


def ladder_of(plan, kind):
    """The ladder that the moves of a plan make of a kind, with nodes (state, living, marked)."""
    ladder = Ladder()
    ladder.node_for((beginning(kind), False, False))
    done = 0
    while done < len(ladder.nodes):
        if is_whole(ladder.nodes[done]):
            state, living, marked = ladder.nodes[done]
            for move in plan.moves(kind, state, living):
                add_move(ladder, done, marked, move)
        done = done + 1
    return ladder


def add_move(ladder, node, marked, move):
    """Enter a move that starts at a node."""
    word, told, state, living, marks, _ = move
    if marks and marked:
        # There is the same move without marking.
        return
    target = ladder.node_for((state, living, marked or marks))
    if word == "add":
        ladder.rise(node, told, target)
    elif word == "none":
        ladder.ground[node].append(target)
    elif word == "some":
        ladder.above[node].append(target)
    else:
        # What was marked is not needed any more without its mark: all numbers are there without a mark, too.
        ladder.fall(node, target, marked)


def rows_from(ladder):
    """The rows (state, settled, unsettled, and both with the tag) of all states that are reached, ascending."""
    numbers = numbers_by_node(ladder)
    told = {name: numbers[node] for name, node in ladder.known.items() if is_whole(name) and node in numbers}
    states = sorted(set([name[0] for name in told]))
    places = ((False, False), (True, False), (False, True), (True, True))
    return tuple([(state, *[told.get((state, *place), NONE) for place in places]) for state in states])
