"""Papers of two forms: a run that shows something, or closed tag tables that show that there is none."""

from forkyields.errors import InvalidPaper
from forkyields.kinds import is_word
from forkyields.playing import played
from forkyields.tagchecker import lets_tag_tables


def check_two_forms(system, tag, thing):
    """Refuse any value but a pair of "run" and a run of the system, or of "tables" and closed tag tables of it."""
    if not isinstance(thing, tuple) or len(thing) != 2 or not is_word(thing[0], ("run", "tables")):
        raise InvalidPaper("shape", -1)
    try:
        if thing[0] == "run":
            played(system, thing[1])
        else:
            lets_tag_tables(system, tag, thing[1])
    except InvalidPaper as e:
        raise InvalidPaper("paper", -1) from e
