"""The parts of a jar, and where the possible last beans of each part come from."""


def all_up_to(limits):
    """All tuples of integers from 0 up to these limits, ascending."""
    found = [()]
    for limit in limits:
        found = [numbers + (number,) for numbers in found for number in range(limit + 1)]
    return found


def count_parts(counts):
    """The number of the parts of a jar with these counts."""
    many = 1
    for count in counts:
        many *= count + 1
    return many


def splits(counts):
    """The ways to divide a jar with these counts into two jars with beans, each once, as tuples of two parts."""
    parts = all_up_to(counts)
    # A part and the one that is as far from the end make up the jar, so half of the parts are enough.
    return [(parts[at], parts[-1 - at]) for at in range(1, (len(parts) + 1) // 2)]


def origins_in(rows, counts, known):
    """A dict from the possible last beans of a jar to their origins, if those of its smaller parts are known.

    The origin is None for the bean of a jar of one bean, and else two tuples of a part and its last bean.
    """
    if sum(counts) == 1:
        return {counts.index(1): None}
    found = {}
    for one, other in splits(counts):
        for x in known[one]:
            for y in known[other]:
                if rows[x][y] not in found:
                    found[rows[x][y]] = ((one, x), (other, y))
    return found


def origins_of_parts(table, jar):
    """The origins of the possible last beans of all parts of a jar that have beans, by the counts of the part."""
    rows = table.rows()
    known = {}
    for counts in all_up_to(jar.counts())[1:]:
        known[counts] = origins_in(rows, counts, known)
    return known
