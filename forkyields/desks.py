"""A desk: a yard that is asked and told by rows of words."""

from forkyields.checks import need_system
from forkyields.errors import InvalidRow, InvalidText
from forkyields.pictures import picture
from forkyields.runtexts import step_line
from forkyields.systemtexts import system_lines
from forkyields.wordreadings import read_name, read_number
from forkyields.yardreadings import read_event, read_log
from forkyields.yards import Yard
from forkyields.yardtexts import event_line

LISTS = ("log", "next", "tree", "table", "system")
QUESTIONS = ("waiting", "guard", "excluded", "foreign", "tally")
OF_PROCESSES = ("lying", "state")
OF_NAMES = ("taken", "forked")


class Desk:
    """A yard with rows of words in and out."""

    def __init__(self, system):
        need_system(system)
        self._yard = Yard(system)
        self._calls = 0

    def say(self, row):
        """The answer to a row."""
        self._calls = self._calls + 1
        event = written_event(row)
        if event is not None:
            return str(self._yard.happen(event))
        if row == "undo":
            return event_line(self._yard.undo())
        begin = written_beginning(row)
        if begin is not None:
            self._yard = Yard(begin[1], guard=begin[2])
            return "ok"
        return answer_to(self._yard, row)

    def counts(self):
        """How many calls of say were started, and how many were finished: errors finish one, too."""
        return (self._calls, self._calls)


def written_event(text):
    """The event that a text writes, None if it writes none."""
    try:
        return read_event(text)
    except InvalidText:
        return None


def written_beginning(text):
    """The beginning that the text of a log without events writes, None if it writes none."""
    try:
        log = read_log(text.split("\n"))
    except InvalidText:
        return None
    return log[0] if len(log) == 1 else None


def answer_to(yard, row):
    """The answer to a row that asks and changes nothing, or InvalidRow."""
    word, space, rest = row.partition(" ")
    if not space and word in LISTS:
        return joined_or_none(" / ", list_of(yard, word))
    if not space and word in QUESTIONS:
        return joined_or_none(" ", parts_of(yard, word))
    if word == "bars" and written_event(rest) is not None:
        reason = yard.barred(written_event(rest))
        return "-" if reason is None else reason
    if word in OF_PROCESSES and read_number(rest) is not None:
        return joined_or_none(" ", parts_of_process(yard, word, read_number(rest)))
    if word in OF_NAMES and read_name(rest) is not None:
        numbers = yard.taken_since(rest) if word == "taken" else yard.forked_since(rest)
        return joined_or_none(" ", [str(number) for number in numbers])
    raise InvalidRow(row)


def joined_or_none(between, parts):
    """The parts as one string with this between, - without any."""
    return between.join(parts) if parts else "-"


def list_of(yard, word):
    """The lines that answer a word for lists."""
    log = yard.log()
    if word == "log":
        return [event_line(event) for event in log[1:]]
    if word == "next":
        return [step_line(step) for step in yard.next_now]
    if word == "tree":
        return picture(log[0][1], yard.run_now)
    return yard.table() if word == "table" else system_lines(yard.system_now)


def parts_of(yard, word):
    """The words that answer a word for questions."""
    if word == "waiting":
        return [str(process) for process in yard.waiting_now]
    if word == "guard":
        return [yard.guard_now]
    if word == "excluded":
        return [joined_by_at(exclusion) for exclusion in yard.excluded_now]
    if word == "foreign":
        return [joined_by_at(row[:5]) for row in yard.foreign_now]
    return [joined_by_at(pair) for pair in yard.tally()]


def parts_of_process(yard, word, process):
    """The words that tell what lies with a process, or its state."""
    if word == "lying":
        return [str(child) for child in yard.lying(process)]
    place, contents = yard.state_now(process)
    return [str(place), *[joined_by_at(content) if content else "-" for content in contents]]


def joined_by_at(parts):
    """Parts as one word with @ between."""
    return "@".join([str(part) for part in parts])
