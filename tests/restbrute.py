"""What all trees within some steps show of rest: who can do a step is asked of each process, one by one."""

from tests.brute import CODE, PLACE, POOL, SLOTS, TAG, all_trees, content, living, moves


class RestFound:
    """Stuck states, resting numbers by state, and the resting account, that trees of a kind show."""

    def __init__(self, system, steps, most=20000):
        self.kinds = {kind[0]: kind for kind in system}
        self.stuck = set()
        self.tags = set()
        self.settled = {}
        self.resting = {}
        self.account = {}
        for tree in all_trees(system, steps, most):
            self.look_at(tree)

    def is_still(self, procs):
        return not any(True for proc in procs for _ in moves(self.kinds, proc))

    def look_at(self, tree):
        first = [proc for proc in tree if proc[TAG] == ''][0]
        if first[CODE] != -1:
            self.enter_end(first[CODE], tree)
            return
        state = (first[PLACE], tuple(content(child) for child in first[SLOTS]))
        children = [child for child in first[SLOTS] if child] + list(first[POOL])
        dead = sum(child[CODE] != -1 for child in first[POOL])
        if not living(first[POOL]):
            self.settled.setdefault(state, set()).add(dead)
        elif self.is_still(first[POOL]):
            self.resting.setdefault(state, set()).add(dead)
        if self.is_still([first]):
            self.stuck.add(state)
            self.tags |= {child[TAG] for child in children if child[CODE] != -1}
        self.enter_end(2, [(*first[:CODE], 2, *first[PLACE:]), *children])

    def enter_end(self, code, procs):
        """Process 0 has ended with this code, and these lie outside."""
        number = sum(proc[CODE] != -1 for proc in procs)
        if not living(procs):
            self.account.setdefault((code, 0), set()).add(number)
        elif self.is_still([proc for proc in procs if proc[CODE] == -1]):
            self.account.setdefault((code, 1), set()).add(number)
