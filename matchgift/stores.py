"""Stores: a row under deeds, with goals that are met, open or lost."""

from matchgift.clauses import comes
from matchgift.errors import NoBack, NoName, NoRow
from matchgift.rows import after_deed, is_row
from matchgift.runs import ran
from matchgift.texts import is_name

MOST_STORED = 100000


def state_between(row, goal):
    """How a goal stands where the row does."""
    if row == goal:
        return "met"
    return "open" if comes(row, goal) else "lost"


class Store:
    """A row under gives and runs, which can be taken back, and goals by names."""

    def __init__(self, row):
        if not is_row(row) or sum(row) > MOST_STORED:
            raise NoRow("a store begins with a row whose sum is at most 100000")
        # The row to begin with, and the row behind each call that stands.
        self.stood = [row]
        # The calls that stand: (i, j) is a give, (i, j, k) a run.
        self.made = []
        self.aims = {}

    def row(self):
        """The row as it stands."""
        return self.stood[-1]

    def give(self, i, j):
        """A deed; NoDeed of anything that may not be done."""
        self.stood.append(after_deed(self.row(), i, j))
        self.made.append((i, j))

    def run(self, i, j, k):
        """A run; NoDeed of anything that may not be done."""
        self.stood.append(ran(self.row(), (i, j, k)))
        self.made.append((i, j, k))

    def back(self):
        """The last give or run that stands is taken back; NoBack where there is none."""
        if not self.made:
            raise NoBack("no give or run stands")
        self.made.pop()
        self.stood.pop()

    def calls(self):
        """How many gives and runs stand."""
        return len(self.made)

    def deeds(self):
        """How many deeds these are together."""
        return sum([1 if len(call) == 2 else call[2] for call in self.made])

    def aim(self, name, other):
        """Keeps a goal under a name; NoName of what is no name, NoRow of what is no row of as many places."""
        if not is_name(name):
            raise NoName("this is no name")
        if not is_row(other) or len(other) != len(self.row()):
            raise NoRow("a goal is a row of as many places")
        self.aims[name] = other

    def state(self, name):
        """How the goal under this name stands; NoName, of anything, of what keeps none."""
        if not is_name(name) or name not in self.aims:
            raise NoName("no goal is kept under this name")
        return state_between(self.row(), self.aims[name])

    def goals(self):
        """The rising tuple of pairs of a name and how its goal stands."""
        return tuple([(name, self.state(name)) for name in sorted(self.aims)])

    def lost_by(self, i, j):
        """The rising tuple of the names of goals that aren't lost and would be behind the deed; NoDeed, of anything."""
        behind = after_deed(self.row(), i, j)
        hopes = [name for name, state in self.goals() if state != "lost"]
        return tuple([name for name in hopes if state_between(behind, self.aims[name]) == "lost"])

    def __eq__(self, other):
        if not isinstance(other, Store):
            return False
        return self.stood[0] == other.stood[0] and self.made == other.made and self.aims == other.aims
