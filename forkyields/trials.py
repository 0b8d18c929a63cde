"""Trials: behind them all is as it was before."""


class Trial:
    """While it is entered, its owner may do anything: at the end the past of the owner is what it was at first."""

    def __init__(self, owner, past):
        self._owner = owner
        self._past = past

    def __enter__(self):
        return self._owner

    def __exit__(self, kind, value, trace):
        self._owner._past = self._past
