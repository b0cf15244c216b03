"""The groups of colours: the group of the last bean never depends on the drawing."""

from beanjars.arguments import is_colour, need_colours
from beanjars.tables import Table

# A step is a tuple (from, to, why), and these are the first items of why.
TEST = "test"
PUT = "put"


def connect(least, links, start, end, why):
    """Join the parts of two colours by a new link, unless the colours are in one part already."""
    kept, lost = min(least[start], least[end]), max(least[start], least[end])
    if kept == lost:
        return
    moved = [colour for colour, first in enumerate(least) if first == lost]
    for colour in moved:
        least[colour] = kept
    links.append((start, end, why))


def found_groups(table):
    """The least colour of the group of each colour, and links that join the colours of each group, none twice.

    A link is a tuple like a step, but instead of a list of steps it has the index of the one link that it follows.
    """
    rows = table.rows()
    size = table.size
    least = list(range(size))
    links = []
    for a in range(size):
        for b in range(size):
            for c in range(size):
                connect(least, links, rows[rows[a][b]][c], rows[a][rows[b][c]], (TEST, a, b, c))
    at = 0
    # What holds for the two colours of each link holds for all colours that the links join.
    while at < len(links):
        u, v, why = links[at]
        for c in range(size):
            connect(least, links, rows[u][c], rows[v][c], (PUT, c, u, v, at))
        at += 1
    return (least, links)


def groups(table):
    """The groups, each a sorted list, sorted."""
    least, links = found_groups(table)
    colours = list(range(table.size))
    return [[colour for colour in colours if least[colour] == first] for first in colours if least[first] == first]


def quotient(table):
    """The table of the groups."""
    parts = groups(table)
    numbers = [0] * table.size
    for number, part in enumerate(parts):
        for colour in part:
            numbers[colour] = number
    return Table([[numbers[table[one[0], other[0]]] for other in parts] for one in parts])


def step_along(links, at, is_turned):
    """The step along a link, from its start to its end or turned round."""
    start, end, why = links[at]
    if why[0] == PUT:
        word, c, u, v, before = why
        # The step inside is made anew, so that no two places of a reason share a list.
        steps = [step_along(links, before, is_turned)]
        why = (PUT, c, v, u, steps) if is_turned else (PUT, c, u, v, steps)
    return (end, start, why) if is_turned else (start, end, why)


def paths_from(links, colour):
    """For each colour of a colour's group the path to it: a list of indexes of links, and whether each is turned."""
    paths = {colour: []}
    waiting = [colour]
    while waiting:
        here = waiting.pop()
        for at, (start, end, why) in enumerate(links):
            if start == here and end not in paths:
                paths[end] = paths[here] + [(at, False)]
                waiting.append(end)
            if end == here and start not in paths:
                paths[start] = paths[here] + [(at, True)]
                waiting.append(start)
    return paths


def reason(table, start, end):
    """A reason for two colours, or None if they are not in one group."""
    need_colours([start, end], table.size)
    least, links = found_groups(table)
    paths = paths_from(links, start)
    if end not in paths:
        return None
    return [step_along(links, at, is_turned) for at, is_turned in paths[end]]


def has_form(why, word, length, size):
    """Whether a value, which can be any, is a tuple of this length that begins with a word and three colours."""
    if not isinstance(why, tuple) or len(why) != length:
        return False
    if not isinstance(why[0], str) or why[0] != word:
        return False
    return all([is_colour(value, size) for value in why[1:4]])


def is_test(table, start, end, why):
    """Whether a value, which can be any, tells by three colours why a step leads from one colour to another one."""
    if not has_form(why, TEST, 4, table.size):
        return False
    word, a, b, c = why
    left, right = table[table[a, b], c], table[a, table[b, c]]
    return (start == left and end == right) or (start == right and end == left)


def is_put(table, start, end, why):
    """Whether a value, which can be any, tells by a further colour why a step leads from one colour to another one.

    The steps inside it are not looked at.
    """
    if not has_form(why, PUT, 5, table.size):
        return False
    word, c, u, v, steps = why
    return start == table[u, c] and end == table[v, c]


def is_step(table, start, value):
    """Whether a value, which can be any, is a step that begins with this colour, but for the steps inside it."""
    if not isinstance(value, tuple) or len(value) != 3:
        return False
    first, last, why = value
    if not is_colour(first, table.size) or not is_colour(last, table.size) or first != start:
        return False
    return is_test(table, first, last, why) or is_put(table, first, last, why)


def leads(table, start, end, value):
    """Whether a value, which can be any, leads by steps from one colour to another one, but for the steps inside."""
    if not isinstance(value, list):
        return False
    here = start
    for step in value:
        if not is_step(table, here, step):
            return False
        here = step[1]
    return here == end


def is_reason(table, start, end, value):
    """Whether a value, which can be any, is a reason for two colours."""
    need_colours([start, end], table.size)
    # Reasons inside reasons wait in a list, so that deep ones need no deep calls.
    waiting = [(start, end, value)]
    while waiting:
        first, last, steps = waiting.pop()
        if not leads(table, first, last, steps):
            return False
        waiting.extend([why[2:] for one, other, why in steps if why[0] == PUT])
    return True
