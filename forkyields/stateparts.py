"""Parts of states: the contents of the slots of a process.

A content is () for an empty slot, otherwise a pair of the place of a fork and -1, or the code of the child.
"""

from forkyields.kinds import is_state

ALIVE = -1


def beginning(kind):
    """The state in which a process of the kind begins."""
    return (0, tuple([() for slot in kind[1]]))


def is_state_of(kind, thing):
    """Whether any value is a state of the kind by form."""
    if not is_state(thing):
        return False
    place, contents = thing
    if place >= len(kind[2]) or len(contents) != len(kind[1]):
        return False
    return all([fits_slot(kind, slot, content) for slot, content in zip(kind[1], contents)])


def fits_slot(kind, slot, content):
    """Whether a content by form is that of this slot of the kind."""
    if content == ():
        return True
    return content[0] < len(kind[2]) and forks_into(kind[2][content[0]], slot)


def forks_into(instruction, slot):
    """Whether an instruction is a fork into this slot."""
    return instruction[0] == "fork" and instruction[3] == slot


def content_of(kind, contents, slot):
    """The content of a slot."""
    return contents[kind[1].index(slot)]


def with_content(kind, contents, slot, content):
    """The contents with another one in a slot."""
    at = kind[1].index(slot)
    return (*contents[:at], content, *contents[at + 1:])


def has_ended(content):
    """Whether a child is in the slot that has ended."""
    return content != () and content[1] != ALIVE


def is_alive(content):
    """Whether a living child is in the slot."""
    return content != () and content[1] == ALIVE


def ended_many(contents):
    """How many children in the slots have ended."""
    return len([content for content in contents if has_ended(content)])


def any_alive(contents):
    """Whether some child in the slots lives."""
    return any([is_alive(content) for content in contents])


def has_tag(kind, content, tag):
    """Whether an ended child with the tag is in the slot."""
    return has_ended(content) and kind[2][content[0]][2] == tag


def any_tagged(kind, contents, tag):
    """Whether some ended child in the slots has the tag."""
    return any([has_tag(kind, content, tag) for content in contents])
