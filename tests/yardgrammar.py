"""Which words can stand where in the lines of events and logs, word by word."""

import re

from tests.wordgrammar import NAME, NUMBER, wrong_line, wrong_step

EVENTS = {'exclude': (NAME, NUMBER, NAME), 'allow': (NAME, NUMBER, NAME), 'guard': ('on|off',), 'mark': (NAME,)}


def wrong_by_forms(words, forms):
    """The first word behind the first that cannot stand, or how many there are if one is missing; None if all is right."""
    for k, word in enumerate(words[1:]):
        if k >= len(forms) or not re.fullmatch(forms[k], word):
            return k + 1
    return len(words) if len(words) <= len(forms) else None


def wrong_event(text):
    """The first word of an event that cannot stand, or how many there are if one is missing; None if all is right."""
    words = text.split(' ')
    if words[0] == 'step':
        if len(words) == 1:
            return 1
        field = wrong_step(words[1:])
        return None if field is None else field + 1
    if words[0] not in EVENTS:
        return 0
    return wrong_by_forms(words, EVENTS[words[0]])


def wrong_head(lines):
    """Line and field of what cannot stand in line 0 of a log and the lines of its system, None if all can."""
    words = lines[0].split(' ') if lines else ['']
    field = 0 if words[0] != 'yard' else wrong_by_forms(words, ('on|off', NUMBER))
    if field is not None:
        return (0, field)
    many = int(words[2])
    if len(lines) - 1 < many:
        return (len(lines), 0)
    if many == 0:
        return (1, 0)
    wrong = wrong_line('\n'.join(lines[1:many + 1]))
    return wrong and (wrong[0] + 1, wrong[1])


def wrong_tail(lines):
    """Line and field of the first line behind the system that is no event, None if all are."""
    for k in range(int(lines[0].split(' ')[2]) + 1, len(lines)):
        if wrong_event(lines[k]) is not None:
            return (k, wrong_event(lines[k]))
    return None
