"""An independent player of runs: processes are objects that know where they are, children are looked for."""


class Process:
    def __init__(self, number, kind, tag, forker, where):
        self.number = number
        self.kind = kind
        self.tag = tag
        self.forker = forker
        self.parent = forker
        self.where = where
        self.code = -1
        self.place = 0
        self.gone = False


class Model:
    def __init__(self, system):
        self.kinds = {kind[0]: kind for kind in system}
        self.all = [Process(0, system[0][0], '', -1, '')]

    def there(self):
        return [process for process in self.all if not process.gone]

    def living(self):
        return [process for process in self.there() if process.code == -1]

    def instruction(self, process):
        return self.kinds[process.kind][2][process.place]

    def children(self, number):
        return [process for process in self.there() if process.parent == number]

    def in_slot(self, number, slot):
        return [process for process in self.children(number) if process.where == slot]

    def steps(self):
        return sorted(step for process in self.living() for step in self.own_steps(process))

    def own_steps(self, process):
        p = process.number
        instruction = self.instruction(process)
        word = instruction[0]
        if word == 'go':
            return {(p, 'go', target) for target in instruction[1]}
        if word not in ('wait', 'poll'):
            return {(p, word, -1)}
        rows, pool = instruction[1:3]
        steps = set()
        for slot in [row[0] for row in rows] + ([''] if pool != -1 else []):
            steps |= {(p, 'take', child.number) for child in self.in_slot(p, slot) if child.code != -1}
        if pool == -1:
            empty = not any(self.in_slot(p, row[0]) for row in rows)
        else:
            empty = not self.children(p)
        if empty:
            steps.add((p, 'none', -1))
        elif word == 'poll':
            steps.add((p, 'later', -1))
        return steps

    def move_out(self, number, slot):
        for child in self.in_slot(number, slot):
            child.where = ''

    def end(self, process, code):
        for child in self.children(process.number):
            child.parent = process.parent
            child.where = ''
        process.code = code

    def do(self, step):
        p, word, number = step
        process = self.all[p]
        instruction = self.instruction(process)
        if word == 'go':
            process.place = number
        elif word == 'fork':
            _, kind, tag, slot, process.place = instruction
            if slot:
                self.move_out(p, slot)
            self.all.append(Process(len(self.all), kind, tag, p, slot))
        elif word == 'take':
            child = self.all[number]
            child.gone = True
            targets = {row[0]: row[1:] for row in instruction[1]}
            process.place = targets[child.where][child.code] if child.where else instruction[2]
        elif word == 'none':
            process.place = instruction[3]
        elif word == 'later':
            process.place = instruction[4]
        elif word == 'kill':
            for child in self.in_slot(p, instruction[1]):
                if child.code == -1:
                    self.end(child, 2)
            process.place = instruction[2]
        elif word == 'release':
            self.move_out(p, instruction[1])
            process.place = instruction[2]
        else:
            self.end(process, instruction[1])

    def rows(self):
        rows = []
        for process in self.there():
            slots = []
            for slot in self.kinds[process.kind][1]:
                slots.append(([child.number for child in self.in_slot(process.number, slot)] + [-1])[0])
            pool = tuple(child.number for child in self.in_slot(process.number, ''))
            rows.append((process.number, process.kind, process.tag, process.parent, process.code, process.place,
                         tuple(slots), pool))
        return tuple(rows)


def model_behind(system, run):
    model = Model(system)
    for step in run:
        assert step in model.steps(), step
        model.do(step)
    return model


def random_run(rng, system, most):
    """A run of at most so many steps; processes that end and forks both come often."""
    model = Model(system)
    run = []
    while len(run) < most and model.steps():
        step = rng.choice(model.steps())
        model.do(step)
        run.append(step)
    return tuple(run)
