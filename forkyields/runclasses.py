"""Runs as objects: one that never changes, and one that grows."""

from forkyields.checks import need, need_system
from forkyields.errors import InvalidPaper, NotUsable, NothingToUndo
from forkyields.kinds import is_number, is_step
from forkyields.playing import played, refusal
from forkyields.runreadings import read_run
from forkyields.runtexts import run_lines
from forkyields.trials import Trial
from forkyields.worlds import all_steps, first_world, program_of, tree_of, world_after


class Run:
    """A run that never changes."""

    def __init__(self, system, steps=()):
        need_system(system)
        try:
            self._world = played(system, steps)
        except InvalidPaper as e:
            raise NotUsable("steps", e.at) from e
        self._system = system
        self._steps = steps

    @property
    def run_now(self):
        """The tuple of the steps."""
        return self._steps

    @property
    def tree_now(self):
        """The tree behind the steps."""
        return tree_of(self._world)

    @classmethod
    def read(cls, system, text):
        """The run that any string writes."""
        return cls(system, read_run(system, text))

    def __add__(self, other):
        need(refusal(program_of(self._system), self._world, other) == "", "step")
        return Run(self._system, (*self._steps, other))

    def __getitem__(self, at):
        need(is_number(at) and at < len(self._steps), "index")
        return self._steps[at]

    def __contains__(self, x):
        return is_step(x) and x in self._steps

    def __len__(self):
        return len(self._steps)

    def __bool__(self):
        return bool(self._steps)

    def __iter__(self):
        return iter(self._steps)

    def __str__(self):
        return str(run_lines(self._steps))

    def __eq__(self, other):
        return isinstance(other, Run) and self._system == other._system and self._steps == other._steps

    def __le__(self, other):
        if not isinstance(other, Run):
            return NotImplemented
        return self._system == other._system and begins_with(other._steps, self._steps)

    def __ge__(self, other):
        if not isinstance(other, Run):
            return NotImplemented
        return self._system == other._system and begins_with(self._steps, other._steps)


class Driver:
    """A run that grows."""

    def __init__(self, system):
        need_system(system)
        self._program = program_of(system)
        # The steps, and the world before each of them and behind all: one tuple, so that a trial can keep it.
        self._past = ((), (first_world(system),))

    @property
    def run_now(self):
        """The tuple of the steps so far."""
        return self._past[0]

    @property
    def tree_now(self):
        """The tree behind the steps."""
        return tree_of(self._past[1][-1])

    @property
    def next_now(self):
        """The set of the steps that are possible next."""
        return tuple(sorted(set(all_steps(self._program, self._past[1][-1]))))

    @next_now.setter
    def next_now(self, value):
        self.go(value)

    def go(self, step):
        """Do a step; how many there were before."""
        steps, worlds = self._past
        need(refusal(self._program, worlds[-1], step) == "", "step")
        self._past = ((*steps, step), (*worlds, world_after(self._program, worlds[-1], step)))
        return len(steps)

    def __iadd__(self, other):
        self.go(other)
        return self

    def back(self):
        """Take back the last step, and return it."""
        steps, worlds = self._past
        if not steps:
            raise NothingToUndo(0)
        self._past = (steps[:-1], worlds[:-1])
        return steps[-1]

    def trial(self):
        """A trial: what is done and taken back from now on is undone at its end."""
        return Trial(self, self._past)

    def tried(self, *steps):
        """The tree behind further steps, which are not done."""
        world = self._past[1][-1]
        for k, step in enumerate(steps):
            if refusal(self._program, world, step) != "":
                raise NotUsable("steps", k)
            world = world_after(self._program, world, step)
        return tree_of(world)


def begins_with(steps, first):
    """Whether steps begin with these ones."""
    return steps[:len(first)] == first
