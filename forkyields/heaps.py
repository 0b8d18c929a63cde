"""How many endings can lie at once with a process, and papers of it."""

from forkyields.checks import kind_called, need_kind, need_system
from forkyields.counts import counted_run
from forkyields.cycles import rising_cycle
from forkyields.heapparts import grows_without_end, most_of
from forkyields.lives import run_to
from forkyields.plans import Plan
from forkyields.progressions import greatest_in, is_endless, member_at
from forkyields.rules import NONE
from forkyields.systemparts import cut_at
from forkyields.tables import tables_of


def most_lying(system, kind):
    """The greatest number of ended children that lie with a process of the kind, None if there is no greatest."""
    need_system(system)
    need_kind(system, kind)
    return most_in_rows(Plan(cut_at(system, kind), "").tables[kind])


def heap_paper(system, kind):
    """A paper that shows how many ended children can lie with a process of the kind."""
    need_system(system)
    need_kind(system, kind)
    plan = Plan(cut_at(system, kind), "")
    rows = plan.tables[kind]
    most = most_in_rows(rows)
    if most is not None:
        return ("most", most, run_to_most(system, kind, rows, most), tables_of(system))
    known = kind_called(system, kind)
    grown = [row for row in rows if grows_without_end(plan, known, row[0])]
    if grown:
        return ("account", counted_to(system, kind, grown[0]))
    return again_paper(system, kind, plan)


def most_in_rows(rows):
    """The greatest number of ended children that lie by rows, None if there is no greatest."""
    found = [most_of(row) for row in rows]
    return None if None in found else sorted(set(found))[-1]


def run_to_most(system, kind, rows, most):
    """A run behind which that many ended children lie with process 0, the most of all rows."""
    row = [row for row in rows if most_of(row) == most][0]
    settled, unsettled = greatest_in(row[1]), greatest_in(row[2])
    living = unsettled > settled
    return run_to(system, kind, row[0], unsettled if living else settled, living=living)


def counted_to(system, kind, row):
    """A counted run of the kind to the state of a row, with the least number."""
    living = row[1] == NONE
    return counted_run(system, kind, row[0], member_at(row[2] if living else row[1], 0), living=living)


def again_paper(system, kind, plan):
    """A counted run with a part that can be done again and again, for a kind without accounts that do it alone."""
    endless = {}
    for row in plan.tables[kind]:
        for living in (False, True):
            if is_endless(row[2 if living else 1]):
                endless[(row[0], living)] = row[2 if living else 1]
    nodes = list(endless)
    turn = rising_cycle(rises_among(plan, kind_called(system, kind), nodes))
    state, living = nodes[turn[0][0]]
    # From a number above 0 on nothing in the turn depends on the number, and none of all is not possible.
    told = endless[nodes[turn[0][0]]]
    first = member_at(told, 0)
    number = first if first > 0 else member_at(told, 1)
    counted = counted_run(system, kind, state, number, living=living)
    again = [(nodes[node][0], number + grown, nodes[node][1]) for node, grown in turn[1:]]
    return ("again", (*counted, *again), len(counted) - 1)


def rises_among(plan, kind, nodes):
    """For each node (state, living), pairs of another one of them and by how much the number grows at most."""
    places = {node: k for k, node in enumerate(nodes)}
    rises = []
    for state, living in nodes:
        moves = [move for move in plan.moves(kind, state, living) if move[0] != "none"]
        known = [move for move in moves if (move[2], move[3]) in places]
        rises.append([(places[(move[2], move[3])], most_rise(move)) for move in known])
    return rises


def most_rise(move):
    """By how much the number grows at most by a move."""
    return -1 if move[0] == "take" else greatest_in(move[1])
