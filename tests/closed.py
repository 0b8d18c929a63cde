"""Which tables, and which tag tables, are closed: number by number, by the words of [34], [36] and [46].

Only numbers up to a bound are looked at: enough for sets whose members and periods are small.
"""

from tests.grammar import STATE, fits
from tests.ruleplay import ended, successors

MOST = 30


def members(told):
    early, repeats, period = told
    found = set(early)
    for start in repeats:
        found |= set(range(start, 3 * MOST, period))
    return found


def is_sorted_numbers(thing):
    return (type(thing) is tuple and all(type(n) is int and n >= 0 for n in thing)
            and list(thing) == sorted(set(thing)))


def set_fits(thing):
    """Whether any value is a number set: no shorter way to tell the same members."""
    if not (type(thing) is tuple and len(thing) == 3 and is_sorted_numbers(thing[0]) and is_sorted_numbers(thing[1])):
        return False
    early, repeats, period = thing
    if type(period) is not int or period < 0 or (period == 0) != (repeats == ()):
        return False
    if period == 0:
        return True
    remainders = {r % period for r in repeats}
    if len(remainders) < len(repeats):
        return False
    for start in repeats:
        if any(n % period == start % period and n >= start - period for n in early):
            return False
    if any(n % period == r % period and n > r for n in early for r in repeats):
        return False
    for p in range(1, period):
        if period % p == 0 and {(r + p) % period for r in remainders} == remainders:
            return False
    return True


def state_fits(kind, thing):
    """Whether any value is a state of the kind by form."""
    if not fits(STATE, thing):
        return False
    _, slots, places = kind
    if thing[0] >= len(places) or len(thing[1]) != len(slots):
        return False
    for slot, content in zip(slots, thing[1]):
        if content and not (content[0] < len(places) and places[content[0]][0] == 'fork'
                            and places[content[0]][3] == slot):
            return False
    return True


def row_fits(kind, thing, sets):
    return (type(thing) is tuple and len(thing) == 1 + sets and state_fits(kind, thing[0])
            and all(set_fits(told) for told in thing[1:]) and not any(0 in told[0] + told[1] for told in thing[3:]))


def given_accounts(kind, rows, tag):
    """What rows give by (code, late): plain numbers as pairs (number, 0), those of the account with the tag (number, 1)."""
    plain, tagged = {}, {}
    for (place, contents), settled, unsettled, ws, wu in rows:
        dead = [content for content in contents if ended(content)]
        alive = any(content and content[1] == -1 for content in contents)
        bears = any(kind[2][content[0]][2] == tag for content in dead)
        codes = [2] + ([kind[2][place][1]] if kind[2][place][0] == 'exit' else [])
        for code in codes:
            for account, early, late in [(plain, settled, unsettled), (tagged, ws, wu)] + [
                    (tagged, settled, unsettled)] * bears:
                account.setdefault((code, int(alive)), set()).update((1 + len(dead) + n) for n in members(early))
                account.setdefault((code, 1), set()).update((1 + len(dead) + n) for n in members(late))
    return ({at: {(n, 0) for n in numbers} for at, numbers in plain.items()},
            {at: {(n, 1) for n in numbers} for at, numbers in tagged.items()})


def leads_to(kind, plain, tagged, row, tag):
    """All (state, number, living, marked) to which rules lead from the numbers of a row up to the bound."""
    state = row[0]
    for living in (False, True):
        for n in [n for n in members(row[1 + living]) if n <= MOST]:
            for after, number, _, alive in successors(kind, plain, (state, n, 0, living)):
                yield after, number, alive, False
            # With a tag of children that ended, or of an account with the tag.
            for accounts in (plain, tagged):
                for after, number, marks, alive in successors(kind, accounts, (state, n, 0, living), tag):
                    if marks:
                        yield after, number, alive, True
        for n in [n for n in members(row[3 + living]) if n <= MOST]:
            for after, number, marks, alive in successors(kind, plain, (state, n, 1, living), tag):
                yield after, number, alive, marks > 0


def first_fault(system, thing, tag=None):
    """The first fault of any value as tables of a system, or as tag tables for a tag; None if they are closed."""
    sets = 2 if tag is None else 4
    if type(thing) is not tuple or len(thing) != len(system) or not all(type(table) is tuple for table in thing):
        return ('shape', -1)
    for i, kind in enumerate(system):
        for k, row in enumerate(thing[i]):
            if not row_fits(kind, row, sets) or (k and not thing[i][k - 1][0] < row[0]):
                return ('row', (i, k))
    for i, kind in enumerate(system):
        if not any(row[0] == (0, ((),) * len(kind[1])) and 0 in members(row[1]) for row in thing[i]):
            return ('first', i)
    whole = [[row if tag is not None else (*row, ((), (), 0), ((), (), 0)) for row in table] for table in thing]
    plain, tagged = {}, {}
    for kind, rows in zip(system, whole):
        plain[kind[0]], tagged[kind[0]] = given_accounts(kind, rows, tag or '')
    for i, kind in enumerate(system):
        numbers = {row[0]: [members(told) for told in row[1:]] for row in whole[i]}
        for k, row in enumerate(whole[i]):
            for state, number, living, marked in leads_to(kind, plain, tagged, row, tag or ''):
                if number <= 2 * MOST and (state not in numbers or number not in numbers[state][living + 2 * marked]):
                    return ('rule', (i, k))
    return None
