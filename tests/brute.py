"""All trees to which a kind comes within some steps, without numbers: each process is a tuple that holds its children."""

KIND, TAG, FORK, CODE, PLACE, SLOTS, POOL = range(7)


def fresh(kinds, name, tag, fork):
    return (name, tag, fork, -1, 0, (None,) * len(kinds[name][1]), ())


def in_order(children):
    return tuple(sorted(children, key=repr))


def changed(proc, **parts):
    values = dict(zip(('place', 'slots', 'pool'), proc[PLACE:]))
    values.update(parts)
    return (*proc[:PLACE], values['place'], tuple(values['slots']), in_order(values['pool']))


def ended(proc, code):
    """The process, ended with a code, and the children that it hands on."""
    children = [child for child in proc[SLOTS] if child] + list(proc[POOL])
    return (*proc[:CODE], code, proc[PLACE], (None,) * len(proc[SLOTS]), ()), children


def own_moves(kinds, proc):
    """What a living process can do itself: pairs of the process behind it and what it hands on."""
    slots, pool = list(proc[SLOTS]), list(proc[POOL])
    names = kinds[proc[KIND]][1]
    instruction = kinds[proc[KIND]][2][proc[PLACE]]
    word = instruction[0]

    def put(slot, child):
        at = names.index(slot)
        return slots[:at] + [child] + slots[at + 1:]

    if word == 'go':
        for target in instruction[1]:
            yield changed(proc, place=target), []
    elif word == 'fork':
        _, name, tag, slot, target = instruction
        child = fresh(kinds, name, tag, proc[PLACE])
        if slot:
            old = [slots[names.index(slot)]] if slots[names.index(slot)] else []
            yield changed(proc, place=target, slots=put(slot, child), pool=pool + old), []
        else:
            yield changed(proc, place=target, pool=pool + [child]), []
    elif word == 'kill':
        _, slot, target = instruction
        child = slots[names.index(slot)]
        if child and child[CODE] == -1:
            dead, handed = ended(child, 2)
            yield changed(proc, place=target, slots=put(slot, dead), pool=pool + handed), []
        else:
            yield changed(proc, place=target), []
    elif word == 'release':
        _, slot, target = instruction
        old = [slots[names.index(slot)]] if slots[names.index(slot)] else []
        yield changed(proc, place=target, slots=put(slot, None), pool=pool + old), []
    elif word == 'exit':
        yield ended(proc, instruction[1])
    else:
        rows, at_pool, none = instruction[1:4]
        held = [slots[names.index(row[0])] for row in rows]
        for row, child in zip(rows, held):
            if child and child[CODE] != -1:
                yield changed(proc, place=row[1 + child[CODE]], slots=put(row[0], None)), []
        if at_pool != -1:
            for k, child in enumerate(pool):
                if child[CODE] != -1:
                    yield changed(proc, place=at_pool, pool=pool[:k] + pool[k + 1:]), []
            anything = any(slots) or bool(pool)
        else:
            anything = any(held)
        if not anything:
            yield changed(proc, place=none), []
        elif word == 'poll':
            yield changed(proc, place=instruction[4]), []


def moves(kinds, proc):
    """What a process or one below it can do."""
    if proc[CODE] != -1:
        return
    yield from own_moves(kinds, proc)
    for k, child in enumerate(proc[SLOTS]):
        if child:
            for after, handed in moves(kinds, child):
                slots = proc[SLOTS][:k] + (after,) + proc[SLOTS][k + 1:]
                yield changed(proc, slots=slots, pool=list(proc[POOL]) + handed), []
    for k, child in enumerate(proc[POOL]):
        if child not in proc[POOL][:k]:
            for after, handed in moves(kinds, child):
                yield changed(proc, pool=list(proc[POOL][:k] + proc[POOL][k + 1:]) + [after] + handed), []


def all_trees(system, steps, most=20000):
    """All trees behind runs of at most so many steps, breadth first, until there are too many: tuples of what lies
    outside, process 0 alone at first. Process 0 has the tag ''."""
    kinds = {kind[0]: kind for kind in system}
    layer = [(fresh(kinds, system[0][0], '', -1),)]
    found = set(layer)
    for _ in range(steps):
        beyond = []
        for tree in layer:
            for k, proc in enumerate(tree):
                for after, handed in moves(kinds, proc):
                    behind = in_order(tree[:k] + tree[k + 1:] + (after, *handed))
                    if behind not in found:
                        found.add(behind)
                        beyond.append(behind)
            if len(found) > most:
                return found
        layer = beyond
    return found


def content(child):
    return (child[FORK], child[CODE]) if child else ()


def living(procs):
    return any(proc[CODE] == -1 for proc in procs)


class Found:
    """What the trees of a kind show: numbers by state, and the account; with a tag, those with it, too."""

    def __init__(self, system, steps, most=20000):
        self.rows = {}
        self.account = {}
        self.tagged_rows = {}
        self.tagged_account = {}
        self.takes = set()
        self.places = set()
        self.kinds = {kind[0]: kind for kind in system}
        for tree in all_trees(system, steps, most):
            self.look_at(tree)
            for proc in tree:
                self.look_at_takes(proc)

    def look_at(self, tree):
        first = [proc for proc in tree if proc[TAG] == ''][0]
        if first[CODE] != -1:
            ends = [proc for proc in tree if proc[CODE] != -1]
            self.enter_end(first[CODE], ends, living(tree))
            return
        state = (first[PLACE], tuple(content(child) for child in first[SLOTS]))
        dead = [child for child in first[POOL] if child[CODE] != -1]
        late = living(first[POOL])
        self.rows.setdefault((state, late), set()).add(len(dead))
        for tag in {child[TAG] for child in dead}:
            self.tagged_rows.setdefault((state, late, tag), set()).add(len(dead))
        children = [child for child in first[SLOTS] if child] + list(first[POOL])
        ends = [child for child in children if child[CODE] != -1]
        self.enter_end(2, [first, *ends], living(children))

    def enter_end(self, code, ends, late):
        self.account.setdefault((code, late), set()).add(len(ends))
        for tag in {proc[TAG] for proc in ends} - {''}:
            self.tagged_account.setdefault((code, late, tag), set()).add(len(ends))

    def look_at_takes(self, proc):
        self.places.add((proc[KIND], proc[PLACE]))
        instruction = self.kinds[proc[KIND]][2][proc[PLACE]]
        if proc[CODE] == -1 and instruction[0] in ('wait', 'poll'):
            slots = dict(zip(self.kinds[proc[KIND]][1], proc[SLOTS]))
            reach = [slots[row[0]] for row in instruction[1]] + list(proc[POOL] if instruction[2] != -1 else ())
            for child in reach:
                if child and child[CODE] != -1:
                    self.takes.add((proc[KIND], proc[PLACE], child[TAG]))
        for child in [child for child in proc[SLOTS] if child] + list(proc[POOL]):
            self.look_at_takes(child)
