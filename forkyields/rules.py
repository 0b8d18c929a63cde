"""The rules that lead from one triple (state, number, living) of a kind to others.

A move is what one rule does from a state: (word, told, state, living, marks, note). By the word "add" the number
grows by a member of told; by "take" a number that is at least 1 falls by 1; "none" needs the number 0, "some" one
that is at least 1. Numbers may be marked: an ended child with the tag is known to be in the pool. A move that marks
leads from numbers that are not marked to marked ones. The note tells what is played (see playouts).

The gains of a kind tell what a fork of it can bring: gains[marked][less][code][late] is a number set, that of its
account for late 0 (settled) or 1 (unsettled), each number less 1 if less is 1.
"""

from forkyields.instructions import has_pool, row_slots
from forkyields.progressions import holds
from forkyields.stateparts import ALIVE, content_of, has_ended, has_tag, is_alive, with_content

NONE = ((), (), 0)
EVEN = ((0,), (), 0)
ONE = ((1,), (), 0)
EVERY = ((), (0,), 1)


def moves_of(kind, gains, tag, state, living):
    """The moves from a state of a kind; the empty string is the tag of no child."""
    place, contents = state
    instruction = kind[2][place]
    word = instruction[0]
    if word == "go":
        return [("add", EVEN, (t, contents), living, False, ("go", t)) for t in instruction[1]]
    if word == "fork" and instruction[3] == "":
        return pool_forks(instruction, gains[instruction[1]], tag, contents, living)
    if word == "fork":
        return slot_forks(kind, gains[instruction[1]], tag, state, living)
    if word == "kill":
        return kill_moves(kind, gains, state, living)
    if word == "release":
        return release_moves(kind, tag, state, living)
    if word == "exit":
        return []
    return take_moves(kind, state, living) + none_moves(kind, state, living) + later_moves(kind, state, living)


def raised(told, state, living, brings, note):
    """The move by which the number grows; it marks, too, if it brings a child with the tag into the pool."""
    return [("add", told, state, living, marks, note) for marks in ((False, True) if brings else (False,))]


def ended_moves(gain, less, ends, living, brings, word):
    """The moves by which a child ends with one of the codes in ends, pairs (code, state behind it)."""
    moves = []
    for code, state in ends:
        for late in (0, 1):
            alive = living or late == 1
            moves.extend(raised(gain[0][less][code][late], state, alive, brings, (word, code, late, 0, less)))
            moves.append(("add", gain[1][less][code][late], state, alive, True, (word, code, late, 1, less)))
    return [move for move in moves if move[1] != NONE]


def pool_forks(instruction, gain, tag, contents, living):
    """The moves of a fork into the pool."""
    state = (instruction[4], contents)
    born = raised(EVEN, state, True, False, ("step", "fork"))
    return born + ended_moves(gain, 0, [(0, state), (1, state)], living, instruction[2] == tag, "life")


def slot_forks(kind, gain, tag, state, living):
    """The moves of a fork into a slot; a child that is there moves to the pool."""
    place, contents = state
    slot, target = kind[2][place][3:]
    old = content_of(kind, contents, slot)
    moved, brings, alive = has_ended(old), has_tag(kind, old, tag), living or is_alive(old)
    behind = {c: (target, with_content(kind, contents, slot, (place, c))) for c in (ALIVE, 0, 1)}
    born = raised(ONE if moved else EVEN, behind[ALIVE], alive, brings, ("step", "fork"))
    # The new child is not in the pool; an old one that has ended makes up for it.
    less = 0 if moved else 1
    return born + ended_moves(gain, less, [(0, behind[0]), (1, behind[1])], alive, brings, "life")


def kill_moves(kind, gains, state, living):
    """The moves of a kill."""
    place, contents = state
    _, slot, target = kind[2][place]
    content = content_of(kind, contents, slot)
    if not is_alive(content):
        return raised(EVEN, (target, contents), living, False, ("step", "kill"))
    forked = kind[2][content[0]][1]
    behind = (target, with_content(kind, contents, slot, (content[0], 2)))
    return ended_moves(gains[forked], 1, [(2, behind)], living, False, "death")


def release_moves(kind, tag, state, living):
    """The move of a release."""
    place, contents = state
    _, slot, target = kind[2][place]
    old = content_of(kind, contents, slot)
    behind = (target, with_content(kind, contents, slot, ()))
    told = ONE if has_ended(old) else EVEN
    return raised(told, behind, living or is_alive(old), has_tag(kind, old, tag), ("step", "release"))


def take_moves(kind, state, living):
    """The moves of a wait or poll that take a child."""
    place, contents = state
    instruction = kind[2][place]
    moves = []
    for row in instruction[1]:
        content = content_of(kind, contents, row[0])
        if has_ended(content):
            behind = (row[1 + content[1]], with_content(kind, contents, row[0], ()))
            moves.append(("add", EVEN, behind, living, False, ("slot", row[0])))
    if has_pool(instruction):
        moves.append(("take", EVEN, (instruction[2], contents), living, False, ("pool", "")))
    return moves


def looked_at(kind, state):
    """The contents that none and later of a wait or poll depend on: those of the rows, with a pool all."""
    instruction = kind[2][state[0]]
    if has_pool(instruction):
        return list(state[1])
    return [content_of(kind, state[1], slot) for slot in row_slots(instruction)]


def none_moves(kind, state, living):
    """The move by which a wait or poll finds that there is no child."""
    instruction = kind[2][state[0]]
    if any([content != () for content in looked_at(kind, state)]):
        return []
    behind = (instruction[3], state[1])
    if not has_pool(instruction):
        return [("add", EVEN, behind, living, False, ("step", "none"))]
    return [] if living else [("none", EVEN, behind, living, False, ("step", "none"))]


def later_moves(kind, state, living):
    """The move by which a poll finds that there is a child."""
    instruction = kind[2][state[0]]
    if instruction[0] == "wait":
        return []
    held = any([content != () for content in looked_at(kind, state)])
    if not held and not has_pool(instruction):
        return []
    word = "add" if held or living else "some"
    return [(word, EVEN, (instruction[4], state[1]), living, False, ("step", "later"))]


def leads(move, before, after):
    """Whether a move leads from (state, number, living, marked) to another such."""
    word, told, state, living, marks, _ = move
    number, marked = before[1], before[3]
    if (state, living, marked or marks) != (after[0], after[2], after[3]):
        return False
    if word == "take":
        return after[1] == number - 1
    if word == "add":
        return holds(told, after[1] - number)
    return after[1] == number and (number == 0) == (word == "none")
