"""Number sets: tuples (early, repeats, period), one for each set of numbers that is finite or repeats."""

from forkyields.checks import need
from forkyields.errors import NotUsable
from forkyields.kinds import is_integer, is_number, is_set_of_numbers
from forkyields.progressions import gathered, greatest_in, has_index, holds, is_least_form
from forkyields.progressions import lies_within, member_at, shifted, union_of


def is_number_set(thing):
    """Whether any value is a number set."""
    if not isinstance(thing, tuple) or len(thing) != 3:
        return False
    early, repeats, period = thing
    if not is_set_of_numbers(early) or not is_set_of_numbers(repeats) or not is_number(period):
        return False
    return is_least_form(early, repeats, period)


def number_set(members, *, first=0, period=0):
    """The number set of these members, which repeats from first on if period is not 0."""
    need(is_set_of_numbers(members), "members")
    need(is_number(first), "first")
    need(is_number(period), "period")
    if period == 0:
        return gathered(members, (), 0)
    need(all([n < first + period for n in members]), "members")
    return gathered([n for n in members if n < first], [n for n in members if n >= first], period)


def has_number(told, number):
    """Whether number is a member."""
    need(is_number_set(told), "told")
    need(is_number(number), "number")
    return holds(told, number)


def all_within(told, other):
    """Whether each member of told is one of other."""
    need(is_number_set(told), "told")
    need(is_number_set(other), "other")
    return lies_within(told, other)


def joined_sets(told, *others):
    """The number set of all members of any of them."""
    need(is_number_set(told), "told")
    for k, other in enumerate(others):
        if not is_number_set(other):
            raise NotUsable("others", k)
    return union_of([told, *others])


def most_in(told):
    """The greatest member, -1 if there is none, None if there is no greatest one."""
    need(is_number_set(told), "told")
    return greatest_in(told)


def moved_set(told, by):
    """The number set of each member plus by, those below 0 left out."""
    need(is_number_set(told), "told")
    need(is_integer(by), "by")
    return shifted(told, by)


def first_numbers(told, many):
    """The tuple of the least members, so many, or of all if there are fewer."""
    need(is_number_set(told), "told")
    need(is_number(many), "many")
    if many == 0 or not has_index(told, many - 1):
        return told[0] if many else ()
    last = member_at(told, many - 1)
    of_repeats = [n for r in told[1] for n in range(r, last + 1, told[2])]
    return tuple(sorted(set([n for n in told[0] if n <= last] + of_repeats)))
