"""Events and logs of yards from texts."""

from forkyields.errors import InvalidText
from forkyields.runreadings import wrong_field, written_step
from forkyields.systemreadings import read_system
from forkyields.wordreadings import read_name, read_number
from forkyields.yardevents import is_guard

FORMS = {
    "exclude": ("name", "number", "name"),
    "allow": ("name", "number", "name"),
    "guard": ("guard",),
    "mark": ("name",),
    "yard": ("guard", "number"),
}
EVENTS = ("step", "exclude", "allow", "guard", "mark")


def read_event(text):
    """The event by kind that any string writes, or InvalidText."""
    return read_line(0, text)


def read_log(lines):
    """The log that a list of strings writes, or InvalidText."""
    words = lines[0].split(" ") if lines else [""]
    field = 0 if words[0] != "yard" else wrong_part(words)
    if field != -1:
        raise InvalidText(0, field)
    many = read_number(words[2])
    if many > len(lines) - 1:
        raise InvalidText(len(lines), 0)
    system = written_system(lines[1:many + 1])
    events = [read_line(line, lines[line]) for line in range(many + 1, len(lines))]
    return (("yard", system, words[1]), *events)


def written_system(lines):
    """The system that the lines behind line 0 of a log write, or InvalidText."""
    if not lines:
        raise InvalidText(1, 0)
    try:
        return read_system("\n".join(lines))
    except InvalidText as e:
        raise InvalidText(e.line + 1, e.field) from e


def read_line(line, text):
    """The event that the text of a line writes, or InvalidText."""
    words = text.split(" ")
    field = wrong_event(words)
    if field != -1:
        raise InvalidText(line, field)
    if words[0] == "step":
        return ("step", written_step(words[1:]))
    return (words[0], *[read_part(form, word) for form, word in zip(FORMS[words[0]], words[1:])])


def wrong_event(words):
    """The index of the first word of an event that cannot stand or is missing, -1 if all is right."""
    if words[0] not in EVENTS:
        return 0
    if words[0] != "step":
        return wrong_part(words)
    field = wrong_field(words[1:])
    return -1 if field == -1 else field + 1


def wrong_part(words):
    """The index of the first word behind a word with forms that cannot stand or is missing, -1 if all is right."""
    forms = FORMS[words[0]]
    for field in range(1, len(words)):
        if field > len(forms) or read_part(forms[field - 1], words[field]) is None:
            return field
    return -1 if len(words) > len(forms) else len(words)


def read_part(form, word):
    """The part of this form that a word writes, None if it cannot stand."""
    if form == "guard":
        return word if is_guard(word) else None
    return read_name(word) if form == "name" else read_number(word)
