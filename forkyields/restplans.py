"""What runs can bring behind which nothing below can do a step: plans with resting numbers instead of unsettled ones.

A living child that comes into the pool, or is in a slot when the process ends or is stuck, is of a kind that sleeps.
"""

from forkyields.instructions import has_pool, row_slots
from forkyields.plans import Plan
from forkyields.progressions import holds
from forkyields.rules import EVEN, EVERY, NONE
from forkyields.stateparts import content_of, has_ended, is_alive


class RestPlan(Plan):
    """The least tables with resting numbers in the place of unsettled ones, with a tag, too."""

    def __init__(self, system, tag):
        # For each kind that sleeps, where it is stuck: number sets by (state, living, marked).
        self.stuck = {}
        self.rests = {}
        Plan.__init__(self, system, tag)

    def add_kind(self, kind):
        """Find the table of a kind, and whether it sleeps."""
        super().add_kind(kind)
        goals = {}
        for row in self.ending_rows(kind):
            for living, told in stuck_numbers(kind, row):
                goals[(row[0], living, False)] = told
        if goals:
            self.stuck[kind[0]] = goals

    def moves(self, kind, state, living):
        """The moves from a state that bring no living child into the pool but of kinds that sleep."""
        moves = super().moves(kind, state, living)
        instruction = kind[2][state[0]]
        if instruction[0] == "fork" and instruction[3] == "" and instruction[1] not in self.stuck:
            return [move for move in moves if move[5] != ("step", "fork")]
        return moves if self.may_rest(kind, moved_content(kind, state)) else []

    def ending_rows(self, kind):
        """The rows of a kind in which all living children in slots are of kinds that sleep."""
        return [row for row in self.tables[kind[0]] if all([self.may_rest(kind, old) for old in row[0][1]])]

    def may_rest(self, kind, content):
        """Whether what is in a slot can come to rest: nobody, an ended child, or one of a kind that sleeps."""
        return not is_alive(content) or kind[2][content[0]][1] in self.stuck

    def way_to_rest(self, name):
        """A way of a kind that sleeps to where it is stuck."""
        if name not in self.rests:
            self.rests[name] = self.ways(name, self.stuck[name])
        return self.rests[name]


def stuck_in(plan, name):
    """The set of the stuck states of a kind of a plan."""
    return tuple(sorted(set([goal[0] for goal in plan.stuck.get(name, {})])))


def moved_content(kind, state):
    """What was in the slot that the fork or release in a state empties, () if there is none."""
    instruction = kind[2][state[0]]
    if instruction[0] == "release":
        return content_of(kind, state[1], instruction[1])
    if instruction[0] == "fork" and instruction[3] != "":
        return content_of(kind, state[1], instruction[3])
    return ()


def stuck_numbers(kind, row):
    """The numbers with which a process is stuck in the state of a row: pairs (living, number set) with some number."""
    place, contents = row[0]
    instruction = kind[2][place]
    if instruction[0] != "wait":
        return []
    looked = [content_of(kind, contents, slot) for slot in row_slots(instruction)]
    if any([has_ended(content) for content in looked]):
        return []
    if has_pool(instruction):
        held = any([content != () for content in contents])
        return [(living, EVEN) for living in (False, True) if (held or living) and holds(row[2 if living else 1], 0)]
    if not any([content != () for content in looked]):
        return []
    return [(living, EVERY) for living in (False, True) if row[2 if living else 1] != NONE]
