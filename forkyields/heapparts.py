"""What rows and rules tell of how many endings can lie at once."""

from forkyields.progressions import greatest_in, is_endless
from forkyields.rules import NONE
from forkyields.stateparts import ended_many


def most_of(row):
    """The greatest number of ended children that lie by a row, None if there is no greatest, -1 without any number."""
    told = [greatest_in(numbers) for numbers in row[1:3] if numbers != NONE]
    if None in told:
        return None
    return sorted(set(told))[-1] + ended_many(row[0][1]) if told else -1


def grows_without_end(plan, kind, state):
    """Whether some move from a state of the kind lets the number grow without a greatest number."""
    return any([is_endless(move[1]) for move in plan.moves(kind, state, False)])
