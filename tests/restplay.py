"""The rules of [33] and [51], played number by number up to a bound: who sleeps, stuck states, resting numbers."""

from tests.ruleplay import ended, ends, successors


def all_asleep(kind, contents, sleepers):
    """Whether all living children in slots are of kinds that sleep."""
    return all(ended(content) or kind[2][content[0]][1] in sleepers for content in contents if content)


def rest_states(kind, accounts, sleepers, most, tag):
    """All (state, number, tagged, living), living ones in the pool being at rest, reached without going beyond the bound."""
    awake = [name for name in accounts if name not in sleepers]
    first = ((0, ((),) * len(kind[1])), 0, 0, False)
    found, pending = {first}, [first]
    while pending:
        before = pending.pop()
        place, contents = before[0]
        word, *parts = kind[2][place]
        slot = parts[2] if word == 'fork' else parts[0] if word == 'release' else ''
        old = dict(zip(kind[1], contents)).get(slot, ())
        if old and not ended(old) and kind[2][old[0]][1] in awake:
            continue
        for after in successors(kind, accounts, before, tag, awake):
            if after[1] <= most and after not in found:
                found.add(after)
                pending.append(after)
    return found


def is_stuck(kind, counted, sleepers):
    """Whether the process can do no step in a counted state, all children in its slots being at rest."""
    (place, contents), number, _, living = counted
    word, *parts = kind[2][place]
    if word != 'wait' or not all_asleep(kind, contents, sleepers):
        return False
    held = dict(zip(kind[1], contents))
    looked = [held[row[0]] for row in parts[0]]
    if any(ended(content) for content in looked) or (parts[1] != -1 and number):
        return False
    return any(looked) if parts[1] == -1 else bool(any(contents) or living)


def played_rest(system, most, tag=''):
    """By kind: the counted states in which it is stuck, all of them, and the account (code, late) -> pairs of numbers and
    how many have the tag, all up to the bound."""
    stuck, tables, accounts, sleepers = {}, {}, {}, set()
    for kind in system[::-1]:
        found = rest_states(kind, accounts, sleepers, most, tag)
        tables[kind[0]] = found
        stuck[kind[0]] = {counted for counted in found if is_stuck(kind, counted, sleepers)}
        accounts[kind[0]] = ends(kind, {counted for counted in found if all_asleep(kind, counted[0][1], sleepers)}, tag)
        if stuck[kind[0]]:
            sleepers.add(kind[0])
    return stuck, tables, accounts


def tagged_at_rest(system, tag, most=12):
    """The kinds that are stuck somewhere beside an ended child with the tag, reached without going beyond the bound."""
    stuck = played_rest(system, most, tag)[0]
    found = set()
    for kind in system:
        for (_, contents), _, tagged, _ in stuck[kind[0]]:
            if tagged or any(ended(content) and kind[2][content[0]][2] == tag for content in contents):
                found.add(kind[0])
    return found
