"""Systems as objects."""

from forkyields.checks import need
from forkyields.kinds import is_name, is_system
from forkyields.systemchanges import excluded, turned, with_kind, without_kind
from forkyields.systemparts import cut_at
from forkyields.systemreadings import read_system
from forkyields.systemtexts import system_text


class System:
    """A system that never changes."""

    def __init__(self, kinds):
        need(is_system(kinds), "kinds")
        self._kinds = kinds

    @property
    def kinds_now(self):
        """The system, a tuple of kinds."""
        return self._kinds

    @property
    def names_now(self):
        """The tuple of the names of the kinds."""
        return tuple([kind[0] for kind in self._kinds])

    @classmethod
    def of(cls, *kinds):
        """The system of these kinds."""
        return cls(kinds)

    @classmethod
    def read(cls, text):
        """The system that any string writes."""
        return cls(read_system(text))

    def fronted(self, kind):
        """The system with a kind more, ahead of all."""
        return System(with_kind(self._kinds, kind))

    def __call__(self, kind):
        return System(cut_at(self._kinds, kind))

    def __getitem__(self, at):
        named = [kind for kind in self._kinds if is_name(at) and kind[0] == at]
        need(len(named) > 0, "kind")
        return named[0]

    def __contains__(self, x):
        return is_name(x) and x in [kind[0] for kind in self._kinds]

    def __iter__(self):
        return iter(self._kinds)

    def __len__(self):
        return len(self._kinds)

    def __eq__(self, other):
        return isinstance(other, System) and self._kinds == other._kinds

    def __str__(self):
        return str(system_text(self._kinds))

    def __add__(self, other):
        return System(with_kind(self._kinds, other, at=len(self._kinds)))

    def __sub__(self, other):
        return System(without_kind(self._kinds, other))


class Excluded(System):
    """A system without the rows of some exclusions."""

    def __init__(self, kinds, *exclusions):
        need(is_system(kinds), "kinds")
        System.__init__(self, excluded(kinds, *exclusions))
        self._whole = kinds

    @property
    def whole(self):
        """The given kinds, with all rows."""
        return self._whole


class Turned(System):
    """A system with codes 0 and 1 exchanged."""

    def __init__(self, kinds):
        need(is_system(kinds), "kinds")
        System.__init__(self, turned(kinds))
        self._whole = kinds

    @property
    def whole(self):
        """The given kinds, with their own codes."""
        return self._whole
