"""Kinds that show what one fork of a kind has brought."""

from forkyields.checks import need
from forkyields.kinds import is_name, is_number, is_one_of


def settled_probe(kind, code, number, *, called="probe"):
    """A kind, and the place to which it comes if so many endings are all that one fork brings."""
    check_probe(kind, code, number, called)
    return probe_of(kind, code, number, called, "settled")


def reach_probe(kind, code, number, *, called="probe"):
    """A kind, and the place to which it comes if something is still there behind so many takes."""
    check_probe(kind, code, number, called)
    return probe_of(kind, code, number, called, "reach")


def check_probe(kind, code, number, called):
    """Refuse the first parameter of a probe that is not as stated."""
    need(is_name(kind), "kind")
    need(is_one_of(code, (0, 1, 2)), "code")
    need(is_number(number) and number > 0, "number")
    need(is_name(called) and called != kind, "called")


def probe_of(kind, code, number, called, looking):
    """The probe, looking behind its takes for no child (settled), for one (reach), or for one that sleeps (rest)."""
    begin = [("fork", kind, "x", "a", 1)] + ([("kill", "a", 2)] if code == 2 else [])
    taking = len(begin)
    place = taking + number + 1
    last = place + 1
    targets = [taking + 1 if known == code else last for known in (0, 1, 2)]
    takes = [("wait", (("a", *targets),), -1, last, ())]
    takes = takes + [("wait", (), p + 1, last, ()) for p in range(taking + 1, taking + number)]
    looks = {
        "settled": ("wait", (), last, place, ()),
        "reach": ("poll", (), last, last, place, ()),
        "rest": ("wait", (), last, last, ()),
    }
    probe = (called, ("a",), (*begin, *takes, looks[looking], ("exit", 0), ("exit", 1)))
    return (probe, place - 1 if looking == "rest" else place)
