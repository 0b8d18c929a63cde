"""What single words of texts write; None for a word that cannot stand."""

from forkyields.kinds import ascends, is_name

DIGITS = "0123456789"
MOST_DIGITS = 60


def read_number(word):
    """The number that a word writes."""
    if not word or len(word) > MOST_DIGITS or not all([digit in DIGITS for digit in word]):
        return None
    if word[0] == "0" and word != "0":
        return None
    return int(word)


def read_name(word):
    """The name that a word writes."""
    return word if is_name(word) else None


def read_code(word):
    """The code of an exit that a word writes."""
    return int(word) if word in ("0", "1") else None


def read_forked_slot(word):
    """The slot of a fork that a word writes, the empty string for the pool."""
    return "" if word == "-" else read_name(word)


def read_names(word):
    """The set of names that a word writes."""
    if word == "-":
        return ()
    return read_parts([read_name(part) for part in word.split(",")])


def read_targets(word):
    """The nonempty set of targets that a word writes."""
    return read_parts([read_number(part) for part in word.split(",")])


def read_parts(parts):
    """The tuple of parts, if all of them were read and ascend."""
    if None in parts or not ascends(parts):
        return None
    return tuple(parts)


def read_rows(word):
    """The rows of a wait or poll that a word writes."""
    if word == "-":
        return ()
    rows = [read_row(part) for part in word.split(",")]
    if None in rows or not ascends([row[0] for row in rows]):
        return None
    return tuple(rows)


def read_row(word):
    """The row that a word writes."""
    parts = word.split(":")
    if len(parts) != 4:
        return None
    row = (read_name(parts[0]), read_number(parts[1]), read_number(parts[2]), read_number(parts[3]))
    return None if None in row else row


def read_pool(word, rows):
    """The pool that a word behind these rows writes."""
    if word == "-":
        return -1 if rows else None
    return read_number(word)
