"""What instructions, kinds, systems, steps and states are, read off the written form of a value."""

import re

NUMBER = r'(?:0|[1-9][0-9]*)'
NAME = r"'[a-z]{1,8}'"


def several(part, least=0):
    """A tuple of at least so many parts."""
    some = rf'\({part},\)|\({part}(?:, {part})+\)'
    return rf'(?:\(\)|{some})' if least == 0 else rf'(?:{some})'


ROW = rf'\({NAME}, {NUMBER}, {NUMBER}, {NUMBER}\)'
WAITED = rf'{several(ROW)}, (?:-1|{NUMBER}), {NUMBER}'
INSTRUCTION = '(?:' + '|'.join([
    rf"\('go', {several(NUMBER, 1)}\)",
    rf"\('fork', {NAME}, {NAME}, (?:{NAME}|''), {NUMBER}\)",
    rf"\('wait', {WAITED}, {several(NAME)}\)",
    rf"\('poll', {WAITED}, {NUMBER}, {several(NAME)}\)",
    rf"\('kill', {NAME}, {NUMBER}\)",
    rf"\('release', {NAME}, {NUMBER}\)",
    r"\('exit', [01]\)",
]) + ')'
STEP = rf"\({NUMBER}, '(?:(?:go|take)', {NUMBER}|(?:fork|none|later|kill|release|exit)', -1)\)"
CONTENT = rf'(?:\(\)|\({NUMBER}, (?:-1|0|1|2)\))'
STATE = rf'\({NUMBER}, {several(CONTENT)}\)'


def fits(pattern, thing):
    return bool(re.fullmatch(pattern, repr(thing)))


def is_sorted(things):
    return list(things) == sorted(set(things))


def instruction_fits(thing):
    if not fits(INSTRUCTION, thing):
        return False
    if thing[0] == 'go':
        return is_sorted(thing[1])
    if thing[0] not in ('wait', 'poll'):
        return True
    slots = [row[0] for row in thing[1]]
    return is_sorted(slots) and is_sorted(thing[-1]) and (bool(slots) or thing[2] != -1)


def name_set_fits(thing):
    return fits(several(NAME), thing) and is_sorted(thing)


def shape_fits(thing):
    return (type(thing) is tuple and len(thing) == 3 and fits(NAME, thing[0]) and name_set_fits(thing[1])
            and type(thing[2]) is tuple and bool(thing[2]))


def kind_fits(thing):
    return shape_fits(thing) and all(map(instruction_fits, thing[2]))


def numbers_in(thing):
    """The numbers in an instruction that is right, -1 for no pool left out."""
    return [int(found) for found in re.findall(r'(?<![-\d])\d+', repr(thing))]


def faults(thing):
    """All faults of any value as a system, in the order of the list."""
    if type(thing) is not tuple or not thing or not all(map(shape_fits, thing)):
        return [('shape', -1)]
    found = [('twice', i) for i, kind in enumerate(thing) if kind[0] in [k[0] for k in thing[:i]]]
    places = [(i, p) for i, kind in enumerate(thing) for p in range(len(kind[2]))]
    right = [(i, p) for i, p in places if instruction_fits(thing[i][2][p])]
    found += [('instruction', at) for at in places if at not in right]
    for i, p in right:
        instruction = thing[i][2][p]
        if instruction[0] != 'exit' and any(n >= len(thing[i][2]) for n in numbers_in(instruction)):
            found.append(('target', (i, p)))
    for i, p in right:
        instruction = thing[i][2][p]
        named = {'fork': instruction[3:4], 'kill': instruction[1:2], 'release': instruction[1:2],
                 'wait': [row[0] for row in instruction[1]] if instruction[0] in ('wait', 'poll') else []}
        word = 'wait' if instruction[0] == 'poll' else instruction[0]
        if not set(named.get(word, ())) <= {*thing[i][1], ''}:
            found.append(('slot', (i, p)))
    for i, p in right:
        if thing[i][2][p][0] == 'fork' and thing[i][2][p][1] not in [kind[0] for kind in thing[i + 1:]]:
            found.append(('layer', (i, p)))
    return found
