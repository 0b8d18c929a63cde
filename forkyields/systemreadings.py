"""Instructions and systems from texts."""

from forkyields.errors import InvalidPaper, InvalidRow, InvalidText
from forkyields.linereadings import line_parts
from forkyields.systemchecker import lets_system


def read_instruction(text):
    """The instruction by form that any string writes, or InvalidRow."""
    parts, field = line_parts(text.split(" "))
    if field != -1 or parts[0] == "kind":
        raise InvalidRow(text)
    return tuple(parts)


def read_system(text):
    """The system that any string writes, or InvalidText."""
    lines = [line.split(" ") for line in text.split("\n")]
    rows = []
    for line, words in enumerate(lines):
        if is_misplaced(words[0], rows):
            raise InvalidText(line, 0)
        parts, field = line_parts(words)
        if field != -1:
            raise InvalidText(line, field)
        rows.append(tuple(parts))
    if rows[-1][0] == "kind":
        raise InvalidText(len(rows), 0)
    return checked_system(rows)


def is_misplaced(word, rows):
    """Whether a first word cannot stand behind these rows, because of the word kind."""
    if word == "kind":
        return len(rows) > 0 and rows[-1][0] == "kind"
    return not rows


def checked_system(rows):
    """The system of these rows, or InvalidText for the row at which it is none."""
    heads = [line for line, row in enumerate(rows) if row[0] == "kind"]
    ends = heads[1:] + [len(rows)]
    system = tuple([(*rows[head][1:], tuple(rows[head + 1:end])) for head, end in zip(heads, ends)])
    try:
        lets_system(system)
    except InvalidPaper as e:
        if e.word == "twice":
            raise InvalidText(heads[e.at], 0) from e
        raise InvalidText(heads[e.at[0]] + 1 + e.at[1], 0) from e
    return system
