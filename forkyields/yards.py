"""Live yards: a run that happens step by step, while rows are excluded and allowed, and a guard is on or off."""

from forkyields.checks import need, need_system
from forkyields.errors import Broken, InvalidEvent, NothingToUndo
from forkyields.kinds import is_name, is_number
from forkyields.runs import take_rows
from forkyields.states import state_in
from forkyields.systemchanges import excluded
from forkyields.trees import lying_in
from forkyields.trials import Trial
from forkyields.worlds import KIND, PLACE, is_there, lives, program_of, tree_of
from forkyields.yardevents import is_event, is_guard
from forkyields.yardmoments import EXCLUSIONS, GUARD, MARKS, RUN, WORLD, first_moment, living_in, moment_after
from forkyields.yardmoments import next_events, reason_against, waits_in_vain


class Yard:
    """A system at work."""

    MOST = 40

    def __init__(self, system, *, guard="off"):
        need_system(system)
        need(is_guard(guard), "guard")
        self._system = system
        self._program = program_of(system)
        # The events, and the moment before each of them and behind all: one tuple, so that a trial can keep it.
        self._past = ((), (first_moment(system, guard),))
        self._calls = 0

    @property
    def run_now(self):
        """The tuple of the steps that happened."""
        return self._past[1][-1][RUN]

    @property
    def tree_now(self):
        """The tree behind the steps."""
        return tree_of(self._past[1][-1][WORLD])

    @property
    def excluded_now(self):
        """The set of the exclusions in force."""
        return self._past[1][-1][EXCLUSIONS]

    @property
    def system_now(self):
        """The system without the rows that are excluded."""
        exclusions = self._past[1][-1][EXCLUSIONS]
        return excluded(self._system, *exclusions)

    @property
    def guard_now(self):
        """Whether foreign takes are refused: on or off."""
        return self._past[1][-1][GUARD]

    @guard_now.setter
    def guard_now(self, value):
        self.happen(("guard", value))

    @property
    def next_now(self):
        """The set of the steps that are possible as events."""
        return next_events(self._program, self._past[1][-1])

    @property
    def waiting_now(self):
        """The set of the living processes that can do nothing but take by excluded rows, or nothing at all."""
        return tuple(waiting_in(self._program, self._past[1][-1]))

    @property
    def foreign_now(self):
        """The rows of the foreign takes that happened."""
        return tuple([row for row in take_rows(self._system, self.run_now) if not row[5]])

    def happen(self, event):
        """Apply an event; how many processes are there then."""
        self._calls = self._calls + 1
        self.take_in(event)
        return len(self.tree_now)

    def do_step(self, process, word, number):
        """Let a process do a step; how many are there then."""
        return self.happen(("step", (process, word, number)))

    def exclude(self, kind, place, slot):
        """Exclude a row from now on; how many processes are there."""
        return self.happen(("exclude", kind, place, slot))

    def allow(self, kind, place, slot):
        """Exclude a row no longer; how many processes are there."""
        return self.happen(("allow", kind, place, slot))

    def set_guard(self, guard):
        """Turn the guard on or off; how many processes are there."""
        return self.happen(("guard", guard))

    def mark(self, name):
        """Give this moment a name; how many processes are there."""
        return self.happen(("mark", name))

    def __iadd__(self, other):
        self.happen(other)
        return self

    def take_in(self, event):
        """Apply an event without counting it."""
        self._past = self.past_after(self._past, event)

    def past_after(self, past, event):
        """The past with one event more, which is refused if it is not possible."""
        reason = self.reason_in(past, event)
        if reason:
            raise InvalidEvent(event, reason)
        events, times = past
        return ((*events, event), (*times, moment_after(self._program, times[-1], event)))

    def reason_in(self, past, event):
        """Why any value is no event that is possible behind a past, the empty string if it is one."""
        events, times = past
        if not is_event(event):
            return "shape"
        if len(events) >= self.MOST:
            return "full"
        return reason_against(self._system, self._program, times[-1], event)

    def barred(self, event):
        """The reason why an event is not possible, None if it is."""
        reason = self.reason_in(self._past, event)
        return reason if reason else None

    def tried(self, *events):
        """The tree behind further events, which are not applied."""
        past = self._past
        for event in events:
            past = self.past_after(past, event)
        return tree_of(past[1][-1][WORLD])

    def trial(self):
        """A trial: what is done and taken back from now on is undone at its end, but for counts."""
        return Trial(self, self._past)

    def undo(self):
        """Take back the last event, and return it."""
        self._calls = self._calls + 1
        events, times = self._past
        if not events:
            raise NothingToUndo(0)
        self._past = (events[:-1], times[:-1])
        return events[-1]

    def do_all(self, *events, keep=False):
        """Apply events in order, none of them if one is not possible, or with keep those before it; how many."""
        self._calls = self._calls + 1
        past = self._past
        for done, event in enumerate(events):
            try:
                self.take_in(event)
            except InvalidEvent as e:
                if keep is not True:
                    self._past = past
                raise Broken(done) from e
        return len(events)

    def counts(self):
        """How many operations were started, and how many were finished: errors finish one, too."""
        return (self._calls, self._calls)

    def lying(self, process):
        """The set of the ended children of a living process."""
        world = self._past[1][-1][WORLD]
        need(is_number(process) and lives(world, process), "process")
        return lying_in(world, process)

    def state_now(self, process):
        """The state of a living process."""
        world = self._past[1][-1][WORLD]
        need(is_number(process) and lives(world, process), "process")
        return state_in(self._system, self.run_now, world, process)

    def taken_since(self, name):
        """The set of the processes that were taken behind a moment with this name."""
        return tuple(sorted(set([number for _, word, number in self.run_now[self.begin_of(name):] if word == "take"])))

    def forked_since(self, name):
        """The set of the processes that were forked behind a moment with this name."""
        before = len([word for _, word, _ in self.run_now[:self.begin_of(name)] if word == "fork"])
        many = len(self._past[1][-1][WORLD])
        return tuple(range(before + 1, many))

    def begin_of(self, name):
        """How many steps were ahead of the moment with this name."""
        marks = [at for known, at in self._past[1][-1][MARKS] if is_name(name) and known == name]
        need(len(marks) > 0, "name")
        return marks[0]

    def tally(self):
        """For each word that steps have, ascending, the pair of it and how many have it."""
        words = [step[1] for step in self.run_now]
        return tuple([(word, words.count(word)) for word in sorted(set(words))])

    def table(self):
        """A list of strings, one for each living process."""
        moment = self._past[1][-1]
        waiting = waiting_in(self._program, moment)
        return [living_line(moment[WORLD], process, process in waiting) for process in living_in(moment[WORLD])]

    def log(self):
        """The beginning, followed by the events that were not undone."""
        return (("yard", self._system, self._past[1][0][GUARD]), *self._past[0])

    def __getitem__(self, at):
        world = self._past[1][-1][WORLD]
        need(is_number(at) and is_there(world, at), "process")
        return world[at]

    def __contains__(self, x):
        return is_number(x) and is_there(self._past[1][-1][WORLD], x)

    def __len__(self):
        return len(self.tree_now)

    def __iter__(self):
        raise TypeError("a yard is not iterated over: its numbers have gaps")

    def __eq__(self, other):
        return isinstance(other, Yard) and beginning_and_events(self) == beginning_and_events(other)


def beginning_and_events(yard):
    """What the log of a yard tells."""
    return (yard._system, yard._past[1][0][GUARD], yard._past[0])


def waiting_in(program, moment):
    """The numbers of the living processes that can do nothing but take by excluded rows, or nothing at all."""
    return [process for process in living_in(moment[WORLD]) if waits_in_vain(program, moment, process)]


def living_line(world, process, waits):
    """The line of a living process."""
    row = world[process]
    end = "waits" if waits else "goes"
    return f"{process:>3} {row[KIND]:<8} {row[PLACE]:>2} {len(lying_in(world, process)):>2} {end}"
