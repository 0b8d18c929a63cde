"""Whether one kind can stand for another one under every parent."""

from forkyields.accountparts import is_lesser, reach_in
from forkyields.accounts import account_of
from forkyields.checks import need_kind, need_system
from forkyields.kinds import LETTERS
from forkyields.probes import reach_probe, settled_probe
from forkyields.progressions import holds, lies_within, member_at


def can_replace(system, old, new):
    """Whether the new kind can stand for the old one."""
    check_pair(system, old, new)
    return is_lesser(account_of(system, new), account_of(system, old))


def are_alike(system, old, new):
    """Whether each of two kinds can stand for the other one."""
    return can_replace(system, old, new) and can_replace(system, new, old)


def parting(system, old, new):
    """None if the new kind can stand for the old one, otherwise a probe of the old one and the place that tells."""
    check_pair(system, old, new)
    known, other = account_of(system, old), account_of(system, new)
    called = free_name(system)
    for code in (0, 1, 2):
        number = first_outside(other[code][0], known[code][0])
        if number is not None:
            return settled_probe(old, code, number, called=called)
        most, reach = reach_in(known[code]), reach_in(other[code])
        if most is not None and (reach is None or reach > most):
            # A reach of 0 beside none would have told by a settled number.
            return reach_probe(old, code, most + 1 if most > 0 else 1, called=called)
    return None


def check_pair(system, old, new):
    """Refuse what is no system, or no kind of it."""
    need_system(system)
    need_kind(system, old, "old")
    need_kind(system, new, "new")


def first_outside(told, other):
    """The least member of a number set that is none of another one, or None."""
    if lies_within(told, other):
        return None
    k = 0
    while holds(other, member_at(told, k)):
        k = k + 1
    return member_at(told, k)


def free_name(system):
    """A name that no kind of the system has."""
    names = [kind[0] for kind in system]
    others = [spelled(k) for k in range(len(names))]
    return [name for name in ["probe", *others] if name not in names][0]


def spelled(number):
    """A name that no other number has."""
    word = LETTERS[number % len(LETTERS)]
    while number >= len(LETTERS):
        number = number // len(LETTERS)
        word = word + LETTERS[number % len(LETTERS)]
    return word
