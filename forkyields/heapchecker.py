"""The check of heap papers."""

from forkyields.checks import kind_called, need_kind, need_system
from forkyields.counts import lets_count
from forkyields.errors import InvalidPaper
from forkyields.heapparts import grows_without_end, most_of
from forkyields.instructions import has_pool, is_waiting
from forkyields.kinds import is_number, is_word
from forkyields.plans import Plan
from forkyields.playing import played
from forkyields.systemparts import cut_at, index_of
from forkyields.tablechecker import lets_tables
from forkyields.trees import lying_in
from forkyields.worlds import lives


def lets_heap(system, kind, thing):
    """How many ended children can lie with a process of the kind, None for any number; InvalidPaper for no paper."""
    need_system(system)
    need_kind(system, kind)
    if not has_heap_shape(thing):
        raise InvalidPaper("shape", -1)
    if thing[0] == "most":
        return checked_most(system, kind, thing)
    try:
        lets_count(system, kind, thing[1])
    except InvalidPaper as e:
        raise InvalidPaper("paper", -1) from e
    known = kind_called(system, kind)
    if thing[0] == "again":
        right = rises_again(known, thing[1], thing[2])
    else:
        right = grows_without_end(Plan(cut_at(system, kind), ""), known, thing[1][-1][0])
    if not right:
        raise InvalidPaper(thing[0], -1)
    return None


def has_heap_shape(thing):
    """Whether any value is a tuple with the length, the first element and the numbers of a heap paper."""
    if not isinstance(thing, tuple) or not thing or not is_word(thing[0], ("most", "again", "account")):
        return False
    if thing[0] == "most":
        return len(thing) == 4 and is_number(thing[1])
    if thing[0] == "again":
        return len(thing) == 3 and is_number(thing[2])
    return len(thing) == 2


def checked_most(system, kind, thing):
    """The number of a heap paper with a greatest one, or InvalidPaper."""
    _, number, run, tables = thing
    try:
        world = played(cut_at(system, kind), run)
        lets_tables(system, tables)
    except InvalidPaper as e:
        raise InvalidPaper("paper", -1) from e
    if not lives(world, 0) or len(lying_in(world, 0)) != number:
        raise InvalidPaper("run", -1)
    for k, row in enumerate(tables[index_of(system, kind)]):
        most = most_of(row)
        if most is None or most > number:
            raise InvalidPaper("number", k)
    return number


def rises_again(kind, counted, k):
    """Whether a counted run can be done from element k on again and again, with more children each time."""
    if k >= len(counted):
        return False
    state, number, living = counted[k]
    if (state, living) != (counted[-1][0], counted[-1][2]) or number >= counted[-1][1]:
        return False
    return not any([needs_nothing_left(kind, element) for element in counted[k:-1]])


def needs_nothing_left(kind, element):
    """Whether an element is at a wait or poll with a pool and without any child, so that only none is possible."""
    (place, contents), number, living = element
    instruction = kind[2][place]
    if not is_waiting(instruction) or not has_pool(instruction) or living or number > 0:
        return False
    return all([content == () for content in contents])
