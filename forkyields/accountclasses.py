"""Accounts as objects with signs."""

from forkyields.accountparts import is_account, is_lesser, joined_accounts, reach_in
from forkyields.accounts import account_of
from forkyields.checks import need
from forkyields.kinds import is_one_of
from forkyields.progressions import told_text


class Account:
    """An account that never changes."""

    def __init__(self, parts):
        need(is_account(parts), "parts")
        self._parts = parts

    @property
    def parts_now(self):
        """The three pairs (settled, unsettled) of number sets, by code."""
        return self._parts

    @classmethod
    def of(cls, system, kind):
        """The account of a kind."""
        return cls(account_of(system, kind))

    def reach(self, code):
        """The reach of a code, None for endless."""
        need(is_one_of(code, (0, 1, 2)), "code")
        return reach_in(self._parts[code])

    def __getitem__(self, at):
        need(is_one_of(at, (0, 1, 2)), "code")
        return self._parts[at]

    def __iter__(self):
        raise TypeError("an account is not iterated over")

    def __bool__(self):
        return any([told[0] != () or told[1] != () for pair in self._parts[:2] for told in pair])

    def __str__(self):
        return "\n".join([code_line(code, self._parts[code]) for code in (0, 1, 2)])

    def __eq__(self, other):
        return isinstance(other, Account) and is_alike(self._parts, other._parts)

    def __le__(self, other):
        if not isinstance(other, Account):
            return NotImplemented
        return is_lesser(self._parts, other._parts)

    def __ge__(self, other):
        if not isinstance(other, Account):
            return NotImplemented
        return is_lesser(other._parts, self._parts)

    def __or__(self, other):
        if not isinstance(other, Account):
            raise TypeError("an account is joined with accounts alone")
        return Account(joined_accounts(self._parts, other._parts))


def is_alike(parts, other):
    """Whether the settled sets and the reaches of two accounts are equal."""
    return all([pair[0] == same[0] and reach_in(pair) == reach_in(same) for pair, same in zip(parts, other)])


def code_line(code, pair):
    """The line of a code: its settled and its unsettled numbers, and its reach."""
    reach = reach_in(pair)
    end = "endless" if reach is None else str(reach)
    return f"{code}: {told_text(pair[0])}; {told_text(pair[1])}; {end}"
