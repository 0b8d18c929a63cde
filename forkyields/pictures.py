"""The tree behind a run, as lines to look at."""

from forkyields.trees import tree_after
from forkyields.worlds import CODE, KIND, PARENT, PLACE


def picture(system, run):
    """A list of strings, one for each row of the tree behind a run."""
    return [row_line(row) for row in tree_after(system, run)]


def row_line(row):
    """The line of a row of a tree."""
    end = f"at {row[PLACE]}" if row[CODE] == -1 else f"code {row[CODE]}"
    return f"{row[0]:>3} {row[KIND]:<8} {row[PARENT]:>3} {end}"
