"""Steps and runs from texts."""

from forkyields.checks import need_system
from forkyields.errors import InvalidPaper, InvalidRow, InvalidText
from forkyields.kinds import NUMBERED_WORDS, STEP_WORDS
from forkyields.playing import played
from forkyields.wordreadings import read_number


def read_step(text):
    """The step that any string writes, or InvalidRow."""
    words = text.split(" ")
    if wrong_field(words) != -1:
        raise InvalidRow(text)
    return written_step(words)


def read_run(system, text):
    """The run that any string writes, or InvalidText."""
    need_system(system)
    lines = [line.split(" ") for line in text.split("\n")] if text else []
    for line, words in enumerate(lines):
        field = wrong_field(words)
        if field != -1:
            raise InvalidText(line, field)
    run = tuple([written_step(words) for words in lines])
    try:
        played(system, run)
    except InvalidPaper as e:
        raise InvalidText(e.at, 0) from e
    return run


def wrong_field(words):
    """The index of the first word of a step that cannot stand or is missing, -1 if all is right."""
    if not words or read_number(words[0]) is None:
        return 0
    if len(words) == 1 or words[1] not in STEP_WORDS:
        return 1
    many = 3 if words[1] in NUMBERED_WORDS else 2
    if many == 3 and (len(words) == 2 or read_number(words[2]) is None):
        return 2
    return -1 if len(words) == many else many


def written_step(words):
    """The step of words that can stand."""
    number = read_number(words[2]) if len(words) == 3 else -1
    return (read_number(words[0]), words[1], number)
