"""Runs made up along ways: what each move is in steps, and what children do meanwhile."""

from forkyields.rules import leads
from forkyields.worlds import CODE, KIND, POOL, SLOTS, TAG, first_world, instruction_at, program_of, world_after


class Playout:
    """A run of a system that is made up step by step; a plan of the system, or of a longer one, tells the ways."""

    def __init__(self, system, plan):
        self.program = program_of(system)
        self.plan = plan
        self.world = first_world(system)
        self.steps = []

    def do_step(self, process, word, number):
        """Do a step that is possible."""
        step = (process, word, number)
        self.world = world_after(self.program, self.world, step)
        self.steps.append(step)

    def follow(self, process, way):
        """Lead a process from its beginning along a way, together with all that comes of it."""
        for before, after in zip(way, way[1:]):
            self.do_move(process, self.note_of(process, before, after), after[1] - before[1])

    def note_of(self, process, before, after):
        """The note of a move by which a process comes from one end of it to the other."""
        kind = self.program[self.world[process][KIND]]
        moves = self.plan.moves(kind, before[0], before[2])
        return [move[5] for move in moves if leads(move, before, after)][0]

    def do_move(self, process, note, by):
        """Do what a note says, the number growing by so many."""
        word = note[0]
        if word == "go":
            self.do_step(process, "go", note[1])
        elif word == "step":
            self.do_step(process, note[1], -1)
        elif word == "slot":
            self.do_step(process, "take", self.child_in(process, note[1]))
        elif word == "pool":
            self.do_step(process, "take", self.child_to_take(process))
        elif word == "life":
            child = len(self.world)
            self.do_step(process, "fork", -1)
            self.end_child(child, note, by)
            self.do_step(child, "exit", -1)
        else:
            self.end_child(self.child_to_kill(process), note, by)
            self.do_step(process, "kill", -1)

    def end_child(self, child, note, by):
        """Lead a child to where its end brings what the note says."""
        _, code, late, marked, less = note
        self.follow(child, self.plan.way_to_end(self.world[child][KIND], code, by + less, late, marked))

    def child_in(self, process, slot):
        """The child in a slot of a process."""
        row = self.world[process]
        return row[SLOTS][self.program[row[KIND]][1].index(slot)]

    def child_to_kill(self, process):
        """The child in the slot that the kill of a process names."""
        row = self.world[process]
        return self.child_in(process, instruction_at(self.program, row)[1])

    def child_to_take(self, process):
        """An ended child in the pool of a process, one without the tag if there is one."""
        lying = [child for child in self.world[process][POOL] if self.world[child][CODE] != -1]
        others = [child for child in lying if self.world[child][TAG] != self.plan.tag]
        return (others + lying)[0]


def life_in(system, plan, end):
    """A run behind which process 0 has ended; end is (code, number, late, marked), to which the plan tells a way."""
    playout = Playout(system, plan)
    playout.follow(0, plan.way_to_end(system[0][0], *end))
    playout.do_step(0, "exit", -1)
    return tuple(playout.steps)
