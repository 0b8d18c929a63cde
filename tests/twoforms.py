"""Faults of papers of two forms, runs and tag tables, by the words of [36], [46], [48] and [49]."""

from forkyields.takers import take_paper
from tests.closed import first_fault
from tests.grammar import STEP, fits
from tests.model import Model

NONE = ((), (), 0)


def plays(system, thing):
    """The model behind any value that is a run of the system, and the model before its last step; None if it is none."""
    if type(thing) is not tuple:
        return None
    model = Model(system)
    for step in thing:
        if not fits(STEP, step) or step not in model.steps():
            return None
        model.do(step)
    return model


def form_fault(system, tag, thing):
    """The first fault of any value as a pair of a run, or of tag tables; None if it is one."""
    if type(thing) is not tuple or len(thing) != 2 or type(thing[0]) is not str or thing[0] not in ('run', 'tables'):
        return ('shape', -1)
    if thing[0] == 'run':
        return None if plays(system, thing[1]) else ('paper', -1)
    return first_fault(system, thing[1], tag) and ('paper', -1)


def comers_by(system, tables):
    """The kinds that come by tables."""
    found = {system[0][0]}
    for kind, rows in zip(system, tables):
        if kind[0] in found:
            found |= {kind[2][row[0][0]][1] for row in rows
                      if row[1:3] != (NONE, NONE) and kind[2][row[0][0]][0] == 'fork'}
    return found


def shows(kind, row, place, tag):
    """Whether a row of tag tables shows a take at a place."""
    (p, contents), settled, unsettled, ws, wu = row
    if p != place or (settled, unsettled) == (NONE, NONE):
        return False
    held = dict(zip(kind[1], contents))
    looked = [held[told[0]] for told in kind[2][place][1]]
    if any(content and content[1] != -1 and kind[2][content[0]][2] == tag for content in looked):
        return True
    return kind[2][place][2] != -1 and (ws, wu) != (NONE, NONE)


def rows_showing(system, tables, name, place, tag):
    """The indexes of the rows that show a take, none if the kind does not come by the tables."""
    if name not in comers_by(system, tables):
        return []
    i = [kind[0] for kind in system].index(name)
    return [k for k, row in enumerate(tables[i]) if shows(system[i], row, place, tag)]


def least_tables(system, tag):
    """The least tag tables of a system: a take paper of a take that is not possible, in a kind put behind all."""
    word, tables = take_paper((*system, ('zlast', (), (('wait', (), 0, 0, ()),))), 'zlast', 0, tag)
    assert word == 'tables'
    return tables[:-1]
