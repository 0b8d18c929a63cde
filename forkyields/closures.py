"""Whether the rules lead from the numbers of rows to numbers that rows have."""

from math import gcd, lcm

from forkyields.accountparts import account_from, gains_from, tagged_account_from
from forkyields.progressions import goes_on_in, holds, is_endless, shifted, starts_by_remainder
from forkyields.rules import EVEN, NONE, moves_of


def open_row(system, tables, tag):
    """The first row (kind, row) from which a rule leads to a number that no row has, or None.

    The tables have rows (state, settled, unsettled, and both with the tag) for each kind.
    """
    gains = gains_of(system, tables, tag)
    for i, kind in enumerate(system):
        numbers = {row[0]: row[1:] for row in tables[i]}
        for k, row in enumerate(tables[i]):
            if leads_out(kind, gains, tag, numbers, row):
                return (i, k)
    return None


def gains_of(system, tables, tag):
    """The gains of each kind that tables give, by name."""
    gains = {}
    for kind, rows in zip(system, tables):
        gains[kind[0]] = gains_from(account_from(kind, rows), tagged_account_from(kind, rows, tag))
    return gains


def leads_out(kind, gains, tag, numbers, row):
    """Whether a rule leads from a row to a number that no row of the kind has."""
    for living in (False, True):
        for move in moves_of(kind, gains, tag, row[0], living):
            behind = numbers.get(move[2], (NONE, NONE, NONE, NONE))
            here = 1 if living else 0
            after = 1 if move[3] else 0
            if not all([sum_within(told, grown, behind[2 * marked + after])
                        for told, grown, marked in moved_numbers(move, row[1 + here], row[3 + here])]):
                return True
    return False


def moved_numbers(move, plain, marked):
    """What a move does to the numbers without and with the tag: (numbers, by what they grow, 1 for with the tag)."""
    word, told, _, _, marks, _ = move
    if word == "take":
        left = shifted(marked, -1)
        return [(shifted(plain, -1), EVEN, 0), (left, EVEN, 0), (above_zero(left), EVEN, 1)]
    if word == "none":
        return [(EVEN if holds(plain, 0) else NONE, EVEN, 0)]
    if word == "some":
        return [(above_zero(plain), EVEN, 0), (marked, EVEN, 1)]
    return [(plain, told, 1)] if marks else [(plain, told, 0), (marked, told, 1)]


def above_zero(told):
    """The members that are not 0."""
    return shifted(shifted(told, -1), 1)


def sum_within(told, grown, other):
    """Whether each member of told plus each of grown is a member of other."""
    early = {n: True for n in other[0]}
    starts = starts_by_remainder(other) if is_endless(other) else {}
    single = {n + m: True for n in told[0] for m in grown[0]}
    if not all([n in early or stands_in(n, other, starts) for n in single]):
        return False
    return all([goes_on_within(start, step, other, starts) for start, step in sum_progressions(told, grown)])


def stands_in(number, other, starts):
    """Whether a number is one that repeats, of a set with these starts by remainder."""
    return is_endless(other) and number % other[2] in starts and number >= starts[number % other[2]]


def sum_progressions(told, grown):
    """The progressions that come from those of told or of grown, as a dict of pairs (start, step)."""
    found = {(start + n, told[2]): True for start in told[1] for n in grown[0]}
    for start in grown[1]:
        for n in told[0]:
            found[(start + n, grown[2])] = True
    if told[1] and grown[1]:
        # Steps of the one period lead to each multiple of the greatest common divisor; the other period does the rest.
        turns = told[2] // gcd(told[2], grown[2])
        for first in told[1]:
            for start in grown[1]:
                for turn in range(turns):
                    found[(first + start + turn * grown[2], told[2])] = True
    return found


def goes_on_within(start, step, other, starts):
    """Whether start, start + step and so on are members of a set with these starts by remainder."""
    if not is_endless(other):
        return False
    whole = lcm(step, other[2])
    return all([goes_on_in(n, whole, other, starts) for n in range(start, start + whole, step)])
