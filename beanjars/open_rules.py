"""Open rules: two beans may be replaced by no bean, and some may not be drawn, so that drawing can get stuck."""

from beanjars.arguments import is_colour
from beanjars.drawing import counts_after, possible_draws
from beanjars.errors import InvalidDraw, InvalidRules, LimitExceeded
from beanjars.jars import Jar, need_same_size
from beanjars.tables import first_wrong_place, is_square

STOP = "stop"
MOST_JARS = 2000


def is_entry(value, size):
    """Whether a value, which can be any, is an entry of open rules with so many colours."""
    return value is None or (isinstance(value, str) and value == STOP) or is_colour(value, size)


def allowed_draws(grid, counts):
    """The allowed draws of a jar with these counts, sorted."""
    return [(a, b) for a, b in possible_draws(counts) if grid[a][b] != STOP]


class OpenRules:
    """The colour, None or `stop` for each two colours."""

    def __init__(self, rows):
        if not is_square(rows):
            raise InvalidRules(None)
        place = first_wrong_place(rows, is_entry)
        if place is not None:
            raise InvalidRules(place)
        self.grid = tuple([tuple(row) for row in rows])

    @property
    def size(self):
        """The number of colours."""
        return len(self.grid)

    def __eq__(self, other):
        return isinstance(other, OpenRules) and self.grid == other.grid

    def rows(self):
        """The rows, as a list of lists."""
        return [list(row) for row in self.grid]

    def draws(self, jar):
        """The allowed draws of a jar, sorted."""
        need_same_size(self, jar)
        return allowed_draws(self.grid, jar.counts())

    def after(self, jar, draw):
        """The jar after a draw."""
        need_same_size(self, jar)
        if not jar.can_draw(draw) or self.grid[draw[0]][draw[1]] == STOP:
            raise InvalidDraw(draw)
        return Jar(counts_after(self.grid, jar.counts(), draw))


def reached(rules, jar):
    """The counts of all jars that allowed draws lead to, nearest first, each with the counts and the draw before it."""
    start = tuple(jar.counts())
    before = {start: None}
    waiting = [start]
    at = 0
    while at < len(waiting):
        counts = waiting[at]
        at += 1
        for draw in allowed_draws(rules.grid, counts):
            following = counts_after(rules.grid, counts, draw)
            if following not in before:
                before[following] = (counts, draw)
                waiting.append(following)
        if len(before) > MOST_JARS:
            raise LimitExceeded(MOST_JARS)
    return before


def ends(rules, jar):
    """The ends of a jar, sorted."""
    need_same_size(rules, jar)
    return sorted([counts for counts in reached(rules, jar) if not allowed_draws(rules.grid, counts)])


def stuck_ends(rules, jar):
    """The ends of a jar with more than one bean, sorted."""
    return [counts for counts in ends(rules, jar) if sum(counts) > 1]


def way_to(rules, jar, goal):
    """A shortest list of allowed draws that leads from a jar to a goal, or None."""
    need_same_size(rules, jar)
    need_same_size(rules, goal)
    before = reached(rules, jar)
    counts = tuple(goal.counts())
    if counts not in before:
        return None
    way = []
    while before[counts] is not None:
        counts, draw = before[counts]
        way.append(draw)
    return way[::-1]
