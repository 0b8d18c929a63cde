"""An independent yard: all is made up anew from its events, by the player of runs."""

from tests.grammar import NAME, NUMBER, STEP, fits
from tests.model import Model

EVENT = (rf"(?:\('step', {STEP}\)|\('(?:exclude|allow)', {NAME}, {NUMBER}, {NAME}\)|\('guard', '(?:on|off)'\)|\('mark', {NAME}\))")
MOST = 40


def event_fits(thing):
    return fits(EVENT, thing)


def words_of(instruction):
    return {'wait': ('take', 'none'), 'poll': ('take', 'none', 'later')}.get(instruction[0], (instruction[0],))


class Day:
    """What a yard is like behind events that are possible one after the other."""

    def __init__(self, system, guard='off', events=()):
        self.system = system
        self.begin = guard
        self.guard = guard
        self.model = Model(system)
        self.run = ()
        self.events = ()
        self.excluded = set()
        self.marks = {}
        self.forked_at = {0: -1}
        self.foreign = []
        for event in events:
            assert self.reason(event) is None, (event, self.reason(event))
            self.do(event)

    def exclusions(self):
        return {(kind[0], p, row[0]) for kind in self.system for p, place in enumerate(kind[2])
                if place[0] in ('wait', 'poll') and place[2] != -1 for row in place[1]}

    def by_excluded(self, step):
        """Whether a possible step takes out of the slot of a row that is excluded."""
        process = self.model.all[step[0]]
        return step[1] == 'take' and (process.kind, process.place, self.model.all[step[2]].where) in self.excluded

    def is_foreign(self, step):
        process = self.model.all[step[0]]
        return step[1] == 'take' and self.model.all[step[2]].tag not in self.model.instruction(process)[-1]

    def reason(self, event):
        if not event_fits(event):
            return 'shape'
        if len(self.events) >= MOST:
            return 'full'
        word, *parts = event
        if word == 'step':
            return self.step_reason(parts[0])
        if word in ('exclude', 'allow'):
            if tuple(parts) not in self.exclusions():
                return 'row'
            return 'same' if (tuple(parts) in self.excluded) == (word == 'exclude') else None
        if word == 'guard':
            return 'same' if parts[0] == self.guard else None
        return 'twice' if parts[0] in self.marks else None

    def step_reason(self, step):
        if step[0] not in [process.number for process in self.model.living()]:
            return 'process'
        if step[1] not in words_of(self.model.instruction(self.model.all[step[0]])):
            return 'word'
        if step not in self.model.steps() or self.by_excluded(step):
            return 'number'
        return 'foreign' if self.guard == 'on' and self.is_foreign(step) else None

    def do(self, event):
        word, *parts = event
        self.events += (event,)
        if word == 'step':
            self.do_step(parts[0])
        elif word == 'exclude':
            self.excluded.add(tuple(parts))
        elif word == 'allow':
            self.excluded.remove(tuple(parts))
        elif word == 'guard':
            self.guard = parts[0]
        else:
            self.marks[parts[0]] = len(self.run)

    def do_step(self, step):
        process = self.model.all[step[0]]
        if self.is_foreign(step):
            self.foreign.append((len(self.run), step[0], process.place, step[2], self.model.all[step[2]].tag, False))
        if step[1] == 'fork':
            self.forked_at[len(self.model.all)] = process.place
        self.model.do(step)
        self.run += (step,)

    def next(self):
        return tuple(step for step in self.model.steps() if self.step_reason(step) is None)

    def waiting(self):
        return tuple(process.number for process in self.model.living()
                     if all(self.by_excluded(step) for step in self.model.own_steps(process)))

    def lying(self, process):
        return tuple(child.number for child in self.model.children(process) if child.code != -1)

    def state(self, process):
        held = []
        for slot in self.model.kinds[self.model.all[process].kind][1]:
            children = self.model.in_slot(process, slot)
            held.append((self.forked_at[children[0].number], children[0].code) if children else ())
        return (self.model.all[process].place, tuple(held))

    def taken(self, name):
        return tuple(sorted(step[2] for step in self.run[self.marks[name]:] if step[1] == 'take'))

    def forked(self, name):
        before = sum(step[1] == 'fork' for step in self.run[:self.marks[name]])
        return tuple(number for number in range(len(self.model.all)) if number > before)

    def tally(self):
        return tuple((word, sum(step[1] == word for step in self.run)) for word in sorted({step[1] for step in self.run}))

    def table(self):
        rows = []
        for process in self.model.living():
            end = 'waits' if process.number in self.waiting() else 'goes'
            many = len(self.lying(process.number))
            rows.append(' '.join([str(process.number).rjust(3), process.kind.ljust(8), str(process.place).rjust(2),
                                  str(many).rjust(2), end]))
        return rows

    def log(self):
        return (('yard', self.system, self.begin), *self.events)

    def system_left(self):
        """The system without the rows that are excluded."""
        kinds = []
        for name, slots, places in self.system:
            left = []
            for p, place in enumerate(places):
                if place[0] in ('wait', 'poll'):
                    rows = tuple(row for row in place[1] if (name, p, row[0]) not in self.excluded)
                    place = (place[0], rows, *place[2:])
                left.append(place)
            kinds.append((name, slots, tuple(left)))
        return tuple(kinds)


def likely_events(rng, day):
    """Some events, most of them possible: steps, exclusions, guards, marks."""
    steps = list(day.model.steps())
    found = [('step', rng.choice(steps)) for _ in range(5) if steps]
    takes = [step for step in steps if step[1] == 'take']
    found += [('step', step) for step in takes]
    found += [(rng.choice(('exclude', 'allow')), *row) for row in sorted(day.exclusions()) if rng.random() < 0.3]
    kind = rng.choice(day.system)
    found += [(rng.choice(('exclude', 'allow')), kind[0], rng.randrange(len(kind[2]) + 1), rng.choice('ahz'))]
    found += [('guard', rng.choice(('on', 'off')))] * (rng.random() < 0.4)
    found += [('mark', rng.choice(('a', 'b', 'c', 'dawn', 'noon')))] * (rng.random() < 0.4)
    found += [('step', (rng.randrange(6), rng.choice(('fork', 'none', 'exit', 'later', 'kill')), -1)),
              ('step', (rng.randrange(6), rng.choice(('take', 'go')), rng.randrange(6)))]
    return found


def random_day(rng, system, most=MOST, guard='off'):
    """A day with at most so many events, all possible."""
    day = Day(system, guard)
    for _ in range(3 * most):
        event = rng.choice(likely_events(rng, day))
        if len(day.events) < most and day.reason(event) is None:
            day.do(event)
    return day
