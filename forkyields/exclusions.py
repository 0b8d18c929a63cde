"""Which slots must be left out of which waits so that no wait takes what is not meant for it."""

from forkyields.checks import need, need_system
from forkyields.exclusionsets import all_exclusions, any_around, any_within, is_exclusion_set, sets_by_size
from forkyields.instructions import fork_tags
from forkyields.plans import Plan, tables_in
from forkyields.restplans import RestPlan, stuck_in
from forkyields.systemchanges import excluded
from forkyields.systemparts import tags_in
from forkyields.takers import any_foreign, foreign_with, is_calm, take_paper


def exclusions_of(system):
    """The set of all exclusions of the system."""
    need_system(system)
    return all_exclusions(system)


def leaves_calm(system, exclusions):
    """Whether no take is foreign in the excluded system."""
    check_exclusions(system, exclusions)
    return is_calm(excluded(system, *exclusions))


def newly_stuck(system, exclusions):
    """The set of all (kind, state) that are stuck in the excluded system, and not in the system."""
    check_exclusions(system, exclusions)
    before = {state: True for state in all_stuck(system)}
    return tuple([state for state in all_stuck(excluded(system, *exclusions)) if state not in before])


def least_exclusions(system):
    """The set of all least sets of exclusions that leave no foreign take."""
    need_system(system)
    return bounds_of(system)[0]


def greatest_others(system):
    """The set of all greatest sets of exclusions that leave a foreign take."""
    need_system(system)
    return bounds_of(system)[1]


def exclusion_paper(system):
    """The least sets with tag tables that show no foreign take, the greatest others with a run that has one."""
    need_system(system)
    least, others = bounds_of(system)
    return (
        tuple([(exclusions, calm_tables(excluded(system, *exclusions))) for exclusions in least]),
        tuple([(exclusions, foreign_run(excluded(system, *exclusions))) for exclusions in others]),
    )


def check_exclusions(system, exclusions):
    """Refuse what is no system, or no set of exclusions of it."""
    need_system(system)
    need(is_exclusion_set(system, exclusions), "exclusions")


def all_stuck(system):
    """The set of all (kind, state) that are stuck."""
    plan = RestPlan(system, "")
    return tuple(sorted(set([(kind[0], state) for kind in system for state in stuck_in(plan, kind[0])])))


def bounds_of(system):
    """The least sets of exclusions that leave no foreign take, and the greatest that leave one."""
    # More exclusions bring no take that was not there: other tags need no look, and what includes a calm set is calm.
    tags = [tag for tag in fork_tags(system) if foreign_with(system, tag)]
    whole = all_exclusions(system)
    if any_foreign(excluded(system, *whole), tags):
        return ((), (whole,))
    least, others = [], []
    for exclusions in sets_by_size(whole):
        if not any_within(least, exclusions):
            if any_foreign(excluded(system, *exclusions), tags):
                others.append(exclusions)
            else:
                least.append(exclusions)
    greatest = [known for k, known in enumerate(others) if not any_around(others[k + 1:], known)]
    return (tuple(sorted(set(least))), tuple(sorted(set(greatest))))


def calm_tables(system):
    """For each tag of a system, ascending, the pair of it and tag tables of the system."""
    return tuple([(tag, tables_in(system, Plan(system, tag))) for tag in tags_in(system)])


def foreign_run(system):
    """A run of the system, which has foreign takes, that ends with one."""
    foreign = []
    for tag in fork_tags(system):
        if not foreign:
            foreign = foreign_with(system, tag)
    kind, place, tag = foreign[0]
    return take_paper(system, kind, place, tag)[1]
