"""The desk: rows kept by names, and lines that ask about them."""

from matchgift.clauses import broken
from matchgift.counts import how_many
from matchgift.errors import NoDeed, NoLine, NoName, NoRow, NoText
from matchgift.gathers import gather
from matchgift.measures import measure, odd_ones, twos
from matchgift.meets import meeting
from matchgift.plans import after
from matchgift.rings import ring
from matchgift.roads import road
from matchgift.rows import are_two_holders
from matchgift.texts import is_name, read_number, read_plan, read_row, show_plan, show_row, words_of
from matchgift.wishes import wished


def read_no_more(words):
    """Nothing, where there are no more words; NoText else."""
    if words:
        raise NoText("there are words too many")
    return None


def read_row_of(words):
    """The row that the words are."""
    return read_row(" ".join(words))


def read_plan_of(words):
    """The plan that the words are."""
    return read_plan(" ".join(words))


def read_two_numbers(words):
    """The two numbers that the words are; NoText where they aren't two."""
    if len(words) != 2:
        raise NoText("there are two numbers in this line")
    return (read_number(words[0]), read_number(words[1]))


def read_wishes(words):
    """The wishes that the words are, one at least."""
    if not words:
        raise NoText("there is one wish at least")
    return tuple([None if word == "?" else read_number(word) for word in words])


def tell_row(rows, nothing):
    """What `show` tells."""
    return show_row(rows[0])


def tell_stays(rows, nothing):
    """What `stays` tells."""
    row = rows[0]
    return f"{sum(row)} {measure(row)} {twos(row)} {odd_ones(row)}"


def tell_comes(rows, nothing):
    """What `comes` tells."""
    clauses = broken(rows[0], rows[1])
    return "; ".join(clauses) if clauses else "yes"


def tell_road(rows, nothing):
    """What `road` tells."""
    plan = road(rows[0], rows[1])
    return "none" if plan is None else show_plan(plan)


def tell_behind(rows, plan):
    """What `try` and `do` tell; NoDeed where the plan may not be done."""
    return show_row(after(rows[0], plan))


def tell_gather(rows, nothing):
    """What `gather` tells."""
    return show_plan(gather(rows[0]))


def tell_many(rows, nothing):
    """What `many` tells."""
    return str(how_many(rows[0]))


def tell_ring(rows, places):
    """What `ring` tells; NoDeed where the places aren't those of two holders who have something."""
    i, j = places
    if not are_two_holders(rows[0], i, j):
        raise NoDeed("these are no unlike places of holders who have something")
    many = ring(rows[0], i, j)
    return "never" if many is None else str(many)


def row_or_none(row):
    """The row as it is written, or that there is none."""
    return "none" if row is None else show_row(row)


def tell_wish(rows, wishes):
    """What `wish` tells; NoRow where there aren't as many wishes as places."""
    if len(wishes) != len(rows[0]):
        raise NoRow("there are as many wishes as places")
    return row_or_none(wished(rows[0], wishes))


def tell_meet(rows, nothing):
    """What `meet` tells."""
    return row_or_none(meeting((rows[0], rows[1])))


TWO_NAMES = ("comes", "road", "meet")
# How the words behind the names are read, by the first word of the line.
READERS = {
    "keep": read_row_of, "show": read_no_more, "drop": read_no_more, "stays": read_no_more,
    "comes": read_no_more, "road": read_no_more, "try": read_plan_of, "do": read_plan_of,
    "gather": read_no_more, "many": read_no_more, "ring": read_two_numbers,
    "wish": read_wishes, "meet": read_no_more,
}
# What is told of the rows under the names; keep and drop tell nothing of any.
TELLERS = {
    "show": tell_row, "stays": tell_stays, "comes": tell_comes, "road": tell_road, "try": tell_behind,
    "do": tell_behind, "gather": tell_gather, "many": tell_many, "ring": tell_ring,
    "wish": tell_wish, "meet": tell_meet,
}


def line_parts(line):
    """The first word of the line, its names, and what the words behind these are; NoText of anything else."""
    words = words_of(line)
    word = words[0]
    if word not in READERS:
        raise NoText("no line begins so")
    many = 2 if word in TWO_NAMES else 1
    names = words[1:1 + many]
    if len(names) < many or not all([is_name(name) for name in names]):
        raise NoText("a name is missing")
    reader = READERS[word]
    return word, names, reader(words[1 + many:])


def read_line(line):
    """The parts of the line; NoLine of anything that is none."""
    try:
        return line_parts(line)
    except NoText:
        raise NoLine("this is no line that the desk knows") from None


class Desk:
    """Keeps rows by names and answers lines."""

    def __init__(self):
        self.kept = {}

    def say(self, line):
        """What the desk tells to a line, of anything; refused, nothing is changed."""
        word, names, asked = read_line(line)
        if word == "keep":
            self.kept[names[0]] = asked
            return "done"
        rows = [self.row_under(name) for name in names]
        if word == "drop":
            del self.kept[names[0]]
            return "done"
        teller = TELLERS[word]
        told = teller(rows, asked)
        if word == "do":
            self.kept[names[0]] = after(rows[0], asked)
        return told

    def row_under(self, name):
        """The row that is kept under a name; NoName where nothing is."""
        if name not in self.kept:
            raise NoName("nothing is kept under this name")
        return self.kept[name]
