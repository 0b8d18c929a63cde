"""Where trees come to rest: stuck states, kinds that sleep, resting numbers."""

from forkyields.accountparts import reach_in
from forkyields.accounts import account_of
from forkyields.checks import need_kind, need_system
from forkyields.exchanges import check_pair
from forkyields.instructions import fork_tags, has_pool
from forkyields.probes import check_probe, probe_of
from forkyields.restplans import RestPlan, stuck_in
from forkyields.rules import NONE
from forkyields.stateparts import any_tagged
from forkyields.systemparts import cut_at


def sleeps(system, kind):
    """Whether the kind has a stuck state."""
    return kind in rest_plan(system, kind).stuck


def stuck_states(system, kind):
    """The set of the stuck states of the kind."""
    return stuck_in(rest_plan(system, kind), kind)


def rest_table(system, kind):
    """The rows (state, settled, resting) of all states that have a settled or a resting number."""
    return tuple([row[:3] for row in rest_plan(system, kind).tables[kind]])


def rest_account(system, kind):
    """The settled and resting numbers of the account of a kind: three pairs of number sets, by code."""
    return rest_plan(system, kind).accounts[kind][0]


def tags_at_rest(system):
    """The set of all (kind, tag) with a tree at rest, process 0 of the kind living, an ended child with the tag."""
    need_system(system)
    found = []
    for tag in fork_tags(system):
        plan = RestPlan(system, tag)
        found.extend([(kind[0], tag) for kind in system if lies_at_rest(plan, kind)])
    return tuple(sorted(set(found)))


def rest_probe(kind, code, number, *, called="probe"):
    """A kind, and the place at which it is stuck if so many endings are all that one fork brings at rest."""
    check_probe(kind, code, number, called)
    return probe_of(kind, code, number, called, "rest")


def alike_at_rest(system, old, new):
    """Whether two kinds cannot be told from each other, not by stuck states either."""
    check_pair(system, old, new)
    if rest_account(system, old) != rest_account(system, new) or sleeps(system, old) != sleeps(system, new):
        return False
    pairs = list(zip(account_of(system, old), account_of(system, new)))
    return all([reach_in(pair) == reach_in(other) for pair, other in pairs])


def rest_plan(system, kind):
    """The plan of a kind at rest, the first parameter that is none refused."""
    need_system(system)
    need_kind(system, kind)
    return RestPlan(cut_at(system, kind), "")


def lies_at_rest(plan, kind):
    """Whether an ended child with the tag of the plan lies with a process of the kind in a tree at rest."""
    states = {goal[0]: True for goal in plan.stuck.get(kind[0], {})}
    return any([row[0] in states and shows_at_rest(plan, kind, row) for row in plan.tables[kind[0]]])


def shows_at_rest(plan, kind, row):
    """Whether an ended child with the tag lies with a process that is stuck in the state of a row."""
    place, contents = row[0]
    # With a pool nobody is stuck beside an ended child in it.
    in_pool = not has_pool(kind[2][place]) and (row[3] != NONE or row[4] != NONE)
    return in_pool or any_tagged(kind, contents, plan.tag)
