"""Number sets: tuples (early, repeats, period), one for each set of numbers that is finite or repeats."""

from math import lcm

from forkyields.checks import need
from forkyields.errors import NotUsable
from forkyields.kinds import is_integer, is_number, is_set_of_numbers
from forkyields.progressions import gathered, goes_on_in, has_index, holds, is_endless, is_least_form
from forkyields.progressions import member_at, spread, starts_by_remainder


def is_number_set(thing):
    """Whether any value is a number set."""
    if not isinstance(thing, tuple) or len(thing) != 3:
        return False
    early, repeats, period = thing
    if not is_set_of_numbers(early) or not is_set_of_numbers(repeats) or not is_number(period):
        return False
    return is_least_form(early, repeats, period)


def number_set(members, *, first=0, period=0):
    """The number set of these members, which repeats from first on if period is not 0."""
    need(is_set_of_numbers(members), "members")
    need(is_number(first), "first")
    need(is_number(period), "period")
    if period == 0:
        return gathered(members, (), 0)
    need(all([n < first + period for n in members]), "members")
    return gathered([n for n in members if n < first], [n for n in members if n >= first], period)


def has_number(told, number):
    """Whether number is a member."""
    need(is_number_set(told), "told")
    need(is_number(number), "number")
    return holds(told, number)


def all_within(told, other):
    """Whether each member of told is one of other."""
    need(is_number_set(told), "told")
    need(is_number_set(other), "other")
    if not all([holds(other, n) for n in told[0]]):
        return False
    if not is_endless(told) or not is_endless(other):
        return not is_endless(told)
    whole = lcm(told[2], other[2])
    starts = starts_by_remainder(other)
    return all([goes_on_in(start, whole, other, starts) for start in spread(told, whole)])


def joined_sets(told, *others):
    """The number set of all members of any of them."""
    need(is_number_set(told), "told")
    for k, other in enumerate(others):
        if not is_number_set(other):
            raise NotUsable("others", k)
    parts = [told, *others]
    whole = 1
    for part in parts:
        whole = lcm(whole, part[2]) if is_endless(part) else whole
    early = [n for part in parts for n in part[0]]
    return gathered(early, [start for part in parts for start in spread(part, whole)], whole)


def most_in(told):
    """The greatest member, -1 if there is none, None if there is no greatest one."""
    need(is_number_set(told), "told")
    if is_endless(told):
        return None
    return told[0][-1] if told[0] else -1


def moved_set(told, by):
    """The number set of each member plus by, those below 0 left out."""
    need(is_number_set(told), "told")
    need(is_integer(by), "by")
    early, repeats, period = told
    starts = [r + by if r + by >= 0 else (r + by) % period for r in repeats]
    return gathered([n + by for n in early if n + by >= 0], starts, period)


def first_numbers(told, many):
    """The tuple of the least members, so many, or of all if there are fewer."""
    need(is_number_set(told), "told")
    need(is_number(many), "many")
    if many == 0 or not has_index(told, many - 1):
        return told[0] if many else ()
    last = member_at(told, many - 1)
    of_repeats = [n for r in told[1] for n in range(r, last + 1, told[2])]
    return tuple(sorted(set([n for n in told[0] if n <= last] + of_repeats)))
