"""Chances of the last beans if beans are drawn at random, and numbers of ways."""

from beanjars.arguments import need_number
from beanjars.drawing import counts_after, possible_draws
from beanjars.jars import played
from beanjars.small import count_all_pairs, count_pairs, in_lowest_terms, need_small, need_wanted


def once(counts, draw):
    """Each draw counts once among the ways."""
    return 1


def weights_after(table, jar, many, weight):
    """The weights of the jars after so many draws, by their counts.

    A list of draws has the product of the weights of its draws; a jar has the sum of the lists that lead to it.
    """
    rows = table.rows()
    found = {tuple(jar.counts()): 1}
    for number in range(many):
        following = {}
        for counts, so_far in found.items():
            for draw in possible_draws(counts):
                left = counts_after(rows, counts, draw)
                following[left] = following.get(left, 0) + so_far * weight(counts, draw)
        found = following
    return found


def weights_of_beans(table, jar, weight):
    """For each colour the weight of the jar with one bean of this colour after all draws."""
    weights = [0] * table.size
    for counts, so_far in weights_after(table, jar, jar.total - 1, weight).items():
        weights[counts.index(1)] = so_far
    return weights


def count_lists_of_pairs(total, many):
    """In how many orders of pairs of beans so many draws can be made, from so many beans."""
    number = 1
    for left in range(total - many + 1, total + 1):
        number *= count_all_pairs(left)
    return number


def chances(table, jar):
    """The chances of all colours to be the last bean."""
    need_small(table, jar)
    whole = count_lists_of_pairs(jar.total, jar.total - 1)
    return [in_lowest_terms(part, whole) for part in weights_of_beans(table, jar, count_pairs)]


def chance_of(table, jar, wanted):
    """The chance that the last bean is one of the wanted colours."""
    need_small(table, jar)
    need_wanted(wanted, table.size)
    weights = weights_of_beans(table, jar, count_pairs)
    whole = count_lists_of_pairs(jar.total, jar.total - 1)
    return in_lowest_terms(sum([weights[colour] for colour in wanted]), whole)


def count_ways(table, jar):
    """For each colour the number of ways that lead to it."""
    need_small(table, jar)
    return weights_of_beans(table, jar, once)


def after_draws(table, jar, many):
    """The counts of all jars that are possible after so many draws, each with its chance, sorted."""
    need_small(table, jar)
    need_number(many, 0, jar.total - 1)
    whole = count_lists_of_pairs(jar.total, many)
    weights = weights_after(table, jar, many, count_pairs)
    return [(counts, in_lowest_terms(weights[counts], whole)) for counts in sorted(list(weights))]


def chance_of_way(table, jar, way):
    """The chance that all draws are made as in a way."""
    need_small(table, jar)
    part, whole = 1, 1
    for step, draw in zip(played(table, jar, way), way):
        part *= count_pairs(step.counts(), draw)
        whole *= count_all_pairs(step.total)
    return in_lowest_terms(part, whole)
