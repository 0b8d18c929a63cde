"""Runs rearranged: all that comes of a child directly behind its fork."""

from forkyields.playing import checked_world, forkers_in


def early_numbers(system, run):
    """For each process of a run, its number in the early run."""
    checked_world(system, run)
    return numbers_by_family(run)


def early_run(system, run):
    """The same steps, all that comes of a child directly behind its fork, with numbers in the order of the forks."""
    checked_world(system, run)
    return arranged(run)


def is_early(system, run):
    """Whether a run is its early run itself."""
    checked_world(system, run)
    return arranged(run) == run


def numbers_by_family(run):
    """For each process of a run, its number when each family is counted as a whole behind its fork."""
    forkers = forkers_in(run)
    forked = [[] for process in forkers]
    for child in range(1, len(forkers)):
        forked[forkers[child]].append(child)
    order = []
    waiting = [0]
    while waiting:
        process = waiting.pop()
        order.append(process)
        waiting.extend(forked[process][::-1])
    early = [0 for process in forkers]
    for number, process in enumerate(order):
        early[process] = number
    return tuple(early)


def arranged(run):
    """The early run of a run."""
    numbers = numbers_by_family(run)
    own = steps_by_process(run, len(numbers))
    steps = []
    # Each entry is a process with the index of its next own step; the last entry goes on first.
    stack = [(0, 0)]
    while stack:
        process, k = stack.pop()
        if k < len(own[process]):
            step, child = own[process][k]
            steps.append(renumbered(step, numbers))
            stack.append((process, k + 1))
            if child:
                stack.append((child, 0))
    return tuple(steps)


def steps_by_process(run, many):
    """For each process, its own steps with the number of the process that each forks, or 0."""
    own = [[] for process in range(many)]
    last = 0
    for step in run:
        if step[1] == "fork":
            last = last + 1
        own[step[0]].append((step, last if step[1] == "fork" else 0))
    return own


def renumbered(step, numbers):
    """A step with other numbers for the processes."""
    process, word, number = step
    return (numbers[process], word, numbers[number] if word == "take" else number)
