"""Number sets as objects with signs."""

from forkyields.checks import need
from forkyields.errors import NotUsable
from forkyields.kinds import is_number
from forkyields.numbersets import all_within, is_number_set, joined_sets, moved_set
from forkyields.progressions import has_index, holds, member_at, told_text


class Numbers:
    """A number set that never changes."""

    def __init__(self, told=((), (), 0)):
        need(is_number_set(told), "told")
        self._told = told

    @property
    def told(self):
        """The number set, a tuple."""
        return self._told

    @classmethod
    def of(cls, *members):
        """The set of these numbers, in any order, also twice."""
        for k, member in enumerate(members):
            if not is_number(member):
                raise NotUsable("members", k)
        return cls((tuple(sorted(set(members))), (), 0))

    @classmethod
    def every(cls, period, *, first=0):
        """The set of first, first + period, first + 2 period and so on."""
        need(is_number(period) and period > 0, "period")
        need(is_number(first), "first")
        return cls(((), (first,), period))

    @staticmethod
    def none():
        """The set without members."""
        return Numbers()

    def __contains__(self, x):
        return is_number(x) and holds(self._told, x)

    def __bool__(self):
        return bool(self._told[0] or self._told[1])

    def __getitem__(self, at):
        need(is_number(at) and has_index(self._told, at), "index")
        return member_at(self._told, at)

    def __iter__(self):
        raise TypeError("Numbers may be endless and are not iterated over")

    def __str__(self):
        return str(told_text(self._told))

    def __le__(self, other):
        if not isinstance(other, Numbers):
            return NotImplemented
        return all_within(self._told, other._told)

    def __ge__(self, other):
        if not isinstance(other, Numbers):
            return NotImplemented
        return all_within(other._told, self._told)

    def __eq__(self, other):
        return isinstance(other, Numbers) and self._told == other._told

    def __or__(self, other):
        need(isinstance(other, Numbers), "other")
        return Numbers(joined_sets(self._told, other._told))

    def __add__(self, other):
        need(is_number(other), "k")
        return Numbers(moved_set(self._told, other))

    def __radd__(self, other):
        need(is_number(other), "k")
        return Numbers(moved_set(self._told, other))

    def __sub__(self, other):
        need(is_number(other), "k")
        return Numbers(moved_set(self._told, -other))
