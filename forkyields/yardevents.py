"""Which values are events of a yard."""

from forkyields.kinds import is_name, is_number, is_step, is_word


def is_event(thing):
    """Whether any value is an event by kind."""
    if not isinstance(thing, tuple) or len(thing) < 2 or not isinstance(thing[0], str):
        return False
    word, parts = thing[0], thing[1:]
    if word in ("exclude", "allow"):
        return len(parts) == 3 and is_name(parts[0]) and is_number(parts[1]) and is_name(parts[2])
    if len(parts) != 1:
        return False
    if word == "step":
        return is_step(parts[0])
    if word == "guard":
        return is_guard(parts[0])
    return word == "mark" and is_name(parts[0])


def is_guard(thing):
    """Whether any value tells whether a guard is on."""
    return is_word(thing, ("on", "off"))
