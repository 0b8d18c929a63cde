"""What the lines of a written system say, word by word."""

from forkyields.wordreadings import read_code, read_forked_slot, read_name, read_names, read_number
from forkyields.wordreadings import read_pool, read_rows, read_targets

PARTS = {
    "kind": ("name", "names"),
    "go": ("targets",),
    "fork": ("name", "name", "forked", "number"),
    "wait": ("rows", "pool", "number", "names"),
    "poll": ("rows", "pool", "number", "number", "names"),
    "kill": ("name", "number"),
    "release": ("name", "number"),
    "exit": ("code",),
}


def line_parts(words):
    """What the words of a line say, as far as they can stand, and the index of the first that cannot.

    The index is that of a missing word if all words can stand but there are too few, -1 if nothing is wrong.
    """
    if words[0] not in PARTS:
        return ([], 0)
    forms = PARTS[words[0]]
    parts = [words[0]]
    for field in range(1, len(words)):
        part = read_part(forms[field - 1], words[field], parts) if field <= len(forms) else None
        if part is None:
            return (parts, field)
        parts.append(part)
    return (parts, -1 if len(parts) > len(forms) else len(parts))


def read_part(form, word, before):
    """The part of this form that a word writes behind the parts before, None if it cannot stand."""
    if form == "pool":
        return read_pool(word, before[1])
    if form == "rows":
        return read_rows(word)
    if form == "targets":
        return read_targets(word)
    if form == "names":
        return read_names(word)
    if form == "forked":
        return read_forked_slot(word)
    if form == "code":
        return read_code(word)
    return read_name(word) if form == "name" else read_number(word)
