"""Draws from jars that are given by their counts."""


def possible_draws(counts):
    """The possible draws of a jar with these counts, sorted."""
    found = []
    for a, count in enumerate(counts):
        if count > 1:
            found.append((a, a))
        if count > 0:
            found.extend([(a, b) for b in range(a + 1, len(counts)) if counts[b] > 0])
    return found


def counts_with(counts, draw, colour):
    """The counts after a draw for which a bean of this colour is put in, or no bean if it is None, as a tuple."""
    a, b = draw
    left = list(counts)
    left[a] -= 1
    left[b] -= 1
    if colour is not None:
        left[colour] += 1
    return tuple(left)


def counts_after(rows, counts, draw):
    """The counts after a draw, as a tuple; the rows are those of a table or of open rules."""
    a, b = draw
    return counts_with(counts, draw, rows[a][b])


def jars_after(rows, draws):
    """The counts of the jars after draws, which are lists in a dict by the counts of the jars before them."""
    found = {}
    for counts, made in draws.items():
        for draw in made:
            found[counts_after(rows, counts, draw)] = True
    return list(found)


def drawn_levels(rows, counts):
    """The counts of the jars after 0, 1, 2, .. draws, up to those with one bean: a list of tuples for each number."""
    levels = [[tuple(counts)]]
    for many in range(sum(counts) - 1):
        levels.append(jars_after(rows, {jar: possible_draws(jar) for jar in levels[many]}))
    return levels
