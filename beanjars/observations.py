"""Tables that fit observations of last beans, and the jar that tells most about them."""

from beanjars.arguments import is_colour, is_pair, is_sequence, need_number
from beanjars.completions import all_completions, need_few_completions, need_partly_known, pairs_of, passing_rows
from beanjars.drawing import counts_with, possible_draws
from beanjars.errors import InvalidObservation
from beanjars.jars import Jar, is_count
from beanjars.tables import Table

MOST_OBSERVATIONS = 20
MOST_BEANS = 6
LEAST_TRIED_BEANS = 2
MOST_TRIED_BEANS = 4

# Many tables are looked at together: they are the bits of an integer, the first table is the lowest bit.


def is_observation(value, size):
    """Whether a value, which can be any, is an observation for so many colours."""
    if not is_pair(value):
        return False
    counts, colour = value
    if not is_sequence(counts) or len(counts) != size or not all([is_count(count) for count in counts]):
        return False
    return 1 <= sum(counts) <= MOST_BEANS and is_colour(colour, size)


def need_observations(observations, size):
    """Raise InvalidObservation if a value, which can be any, is no list or tuple of few observations."""
    if not is_sequence(observations) or len(observations) > MOST_OBSERVATIONS:
        raise InvalidObservation(None)
    for index, value in enumerate(observations):
        if not is_observation(value, size):
            raise InvalidObservation(index)


def considered(rows, observations, passing):
    """The rows of the considered tables, ascending, if the arguments are right."""
    need_partly_known(rows)
    need_observations(observations, len(rows))
    need_few_completions(rows)
    return passing_rows(all_completions(rows)) if passing else all_completions(rows)


def count_bits(bits):
    """The number of tables that are bits of an integer."""
    return f"{bits:b}".count("1")


def bits_with_entry(many, pair, colour):
    """The tables that have a colour at a pair."""
    a, b = pair
    bits = 0
    for at, rows in enumerate(many):
        if rows[a][b] == colour:
            bits |= 1 << at
    return bits


def entries_of(many, size):
    """For each pair (a, b) of colours with a <= b the colours there, each with the tables that have it there."""
    found = {}
    for pair in pairs_of(size):
        colours = [(colour, bits_with_entry(many, pair, colour)) for colour in range(size)]
        found[pair] = [(colour, bits) for colour, bits in colours if bits > 0]
    return found


def known_at_first(many, size):
    """The tables by which each colour is a possible last bean, for the jars of one bean, by their counts."""
    every = (1 << len(many)) - 1
    colours = list(range(size))
    return {
        tuple([1 if other == bean else 0 for other in colours]): [every if other == bean else 0 for other in colours]
        for bean in colours
    }


def bits_of_beans(entries, counts, known):
    """For each colour the tables by which it is a possible last bean of a jar; what is found is added to known."""
    if counts in known:
        return known[counts]
    found = [0] * len(counts)
    for draw in possible_draws(counts):
        for colour, bits in entries[draw]:
            left = bits_of_beans(entries, counts_with(counts, draw, colour), known)
            found = [one | (bits & other) for one, other in zip(found, left)]
    known[counts] = found
    return found


def bits_that_fit(many, size, observations):
    """For each observation the tables that fit it."""
    entries, known = entries_of(many, size), known_at_first(many, size)
    return [bits_of_beans(entries, tuple(counts), known)[colour] for counts, colour in observations]


def common_bits(many, found):
    """The tables that fit all of some observations."""
    common = (1 << len(many)) - 1
    for bits in found:
        common &= bits
    return common


def fitting(rows, observations, *, passing=False):
    """The considered tables that fit all observations, ascending."""
    many = considered(rows, observations, passing)
    common = common_bits(many, bits_that_fit(many, len(rows), observations))
    return [Table(full) for at, full in enumerate(many) if (common >> at) & 1 == 1]


def conflict(rows, observations, *, passing=False):
    """None if some table fits all observations, and else indexes of observations that already conflict, ascending.

    If any one of these is left out, some table fits the others.
    """
    many = considered(rows, observations, passing)
    found = bits_that_fit(many, len(rows), observations)
    if common_bits(many, found) > 0:
        return None
    kept = list(range(len(found)))
    for index in range(len(found)):
        others = [other for other in kept if other != index]
        if common_bits(many, [found[other] for other in others]) == 0:
            kept = others
    return kept


def counts_of_total(size, total):
    """The counts of all jars with so many colours and beans, ascending, as tuples."""
    found = [()]
    for colour in range(size - 1):
        found = [counts + (count,) for counts in found for count in range(total - sum(counts) + 1)]
    return [counts + (total - sum(counts),) for counts in found]


def next_jar(rows, observations, most, *, passing=False):
    """The jar whose last bean leaves the fewest fitting tables in the worst case, and their number, or None."""
    many = considered(rows, observations, passing)
    need_number(most, LEAST_TRIED_BEANS, MOST_TRIED_BEANS)
    size = len(rows)
    entries, known = entries_of(many, size), known_at_first(many, size)
    common = common_bits(many, bits_that_fit(many, size, observations))
    if count_bits(common) < 2:
        return None
    found = []
    for total in range(LEAST_TRIED_BEANS, most + 1):
        for counts in counts_of_total(size, total):
            numbers = [count_bits(common & bits) for bits in bits_of_beans(entries, counts, known)]
            found.append((max(numbers), total, counts))
    number, total, counts = min(found)
    return (Jar(counts), number)
