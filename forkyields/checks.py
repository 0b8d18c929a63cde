"""The refusals of parameters that are not as stated."""

from forkyields.errors import NotUsable
from forkyields.instructions import is_waiting
from forkyields.kinds import is_name, is_number, is_system


def need(condition, word):
    """Refuse the parameter that is called word if its condition does not hold."""
    if not condition:
        raise NotUsable(word, -1)


def kind_called(system, name):
    """The kind of a system that has this name."""
    return [kind for kind in system if kind[0] == name][0]


def need_system(system):
    """Refuse what is no system."""
    need(is_system(system), "system")


def need_kind(system, kind, word="kind"):
    """Refuse what is not the name of a kind of the system."""
    need(is_name(kind) and kind in [known[0] for known in system], word)


def need_place(system, kind, place):
    """Refuse what is no place of the kind."""
    need(is_number(place) and place < len(kind_called(system, kind)[2]), "place")


def need_wait(system, kind, place):
    """Refuse a place that is no wait and no poll."""
    need(is_waiting(kind_called(system, kind)[2][place]), "place")


def need_tag(tag):
    """Refuse what is no name of a tag."""
    need(is_name(tag), "tag")


def check_take(system, kind, place, tag):
    """Refuse the first parameter of a take that is not as stated."""
    need_system(system)
    need_kind(system, kind)
    need_place(system, kind, place)
    need_wait(system, kind, place)
    need_tag(tag)
