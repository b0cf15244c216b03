"""Two persons draw by turns: person 1 wants a last bean of a wanted colour, person 2 another one."""

from beanjars.arguments import are_all_colours, is_integer, need_number
from beanjars.drawing import counts_after, drawn_levels, jars_after, possible_draws
from beanjars.errors import InvalidOrder, InvalidTurn
from beanjars.jars import Jar
from beanjars.small import count_all_pairs, count_pairs, in_lowest_terms, need_small, need_wanted

FIRST = 1
SECOND = 2


def need_turn(turn):
    """Raise InvalidTurn if a value, which can be any, is no person."""
    if not is_integer(turn) or not FIRST <= turn <= SECOND:
        raise InvalidTurn()


def person_after(turn, many):
    """The person whose turn it is after so many draws."""
    return turn if many % 2 == 0 else FIRST + SECOND - turn


def ranks_of(wanted, size):
    """The rank of each colour for person 1: 0 if it is wanted, and else 1."""
    return [0 if colour in wanted else 1 for colour in range(size)]


def values_of_jars(rows, counts, ends, value_of):
    """The values of all jars that drawing leads to, by their counts, from the last draw back to the first one.

    The ends are the values of the last beans; value_of(many, jar, found) is the value of a jar after so many draws,
    from a list of tuples of its draws and the values after them.
    """
    levels = drawn_levels(rows, counts)
    values = {jar: ends[jar.index(1)] for jar in levels[-1]}
    for many in range(len(levels) - 2, -1, -1):
        for jar in levels[many]:
            found = [(draw, values[counts_after(rows, jar, draw)]) for draw in possible_draws(jar)]
            values[jar] = value_of(many, jar, found)
    return values


def game_values(table, jar, ranks, turn):
    """The rank of the last bean from each jar on, if person 1 draws for a small rank and person 2 for a great one."""
    def value_of(many, counts, found):
        """The best rank for the person whose turn it is."""
        values = [value for draw, value in found]
        return min(values) if person_after(turn, many) == FIRST else max(values)

    return values_of_jars(table.rows(), jar.counts(), ranks, value_of)


def winner_for(values, jar):
    """The person who can force the own goal from a jar on, by the values of wanted colours."""
    return FIRST if values[tuple(jar.counts())] == 0 else SECOND


def equal_draws(table, counts, values):
    """The draws of a jar with these counts after which the value stays as it is, sorted."""
    rows = table.rows()
    return [draw for draw in possible_draws(counts) if values[counts_after(rows, counts, draw)] == values[counts]]


def winner(table, jar, wanted, *, turn=FIRST):
    """The person who can force the own goal."""
    need_small(table, jar)
    need_wanted(wanted, table.size)
    need_turn(turn)
    return winner_for(game_values(table, jar, ranks_of(wanted, table.size), turn), jar)


def good_draws(table, jar, wanted, *, turn=FIRST):
    """The draws, sorted, after which the person who draws first can force the own goal."""
    need_small(table, jar)
    need_wanted(wanted, table.size)
    need_turn(turn)
    values = game_values(table, jar, ranks_of(wanted, table.size), turn)
    # Who can not force the own goal now can not do so after any own draw.
    if winner_for(values, jar) != turn:
        return []
    return equal_draws(table, tuple(jar.counts()), values)


def outcome(table, jar, order, *, turn=FIRST):
    """The last bean if person 1 draws for an early colour of the order, and person 2 for a late one."""
    need_small(table, jar)
    if not are_all_colours(order, table.size):
        raise InvalidOrder()
    need_turn(turn)
    ranks = [order.index(colour) for colour in range(table.size)]
    return order[game_values(table, jar, ranks, turn)[tuple(jar.counts())]]


def plan(table, jar, wanted, *, turn=FIRST):
    """The person who can force the own goal, and a plan with which this person gets it."""
    need_small(table, jar)
    need_wanted(wanted, table.size)
    need_turn(turn)
    values = game_values(table, jar, ranks_of(wanted, table.size), turn)
    person = winner_for(values, jar)
    found = {}
    level = [tuple(jar.counts())]
    for many in range(jar.total - 1):
        draws = {counts: possible_draws(counts) for counts in level}
        if person_after(turn, many) == person:
            draws = {counts: equal_draws(table, counts, values)[:1] for counts in level}
            for counts, made in draws.items():
                found[counts] = made[0]
        level = jars_after(table.rows(), draws)
    return (person, found)


def draws_of_plan(value, level):
    """The draws that a dict has for the jars of a level, as lists in a dict, or None if a possible draw is missing."""
    # Only get is asked: an index can put new keys into some kinds of dicts.
    draws = {counts: [value.get(counts)] for counts in level}
    if all([Jar(counts).can_draw(made[0]) for counts, made in draws.items()]):
        return draws
    return None


def is_plan(table, jar, wanted, person, value, *, turn=FIRST):
    """Whether a value, which can be any, is a plan with which a person gets the own goal."""
    need_small(table, jar)
    need_wanted(wanted, table.size)
    need_turn(turn)
    need_number(person, FIRST, SECOND)
    if not isinstance(value, dict):
        return False
    level = [tuple(jar.counts())]
    for many in range(jar.total - 1):
        draws = {counts: possible_draws(counts) for counts in level}
        if person_after(turn, many) == person:
            draws = draws_of_plan(value, level)
        if draws is None:
            return False
        level = jars_after(table.rows(), draws)
    return all([(counts.index(1) in wanted) == (person == FIRST) for counts in level])


def best_chance(table, jar, wanted, *, turn=FIRST, person=FIRST):
    """The greatest chance with which a person can get the own goal if the other one draws at random."""
    need_small(table, jar)
    need_wanted(wanted, table.size)
    need_turn(turn)
    need_number(person, FIRST, SECOND)

    def value_of(many, counts, found):
        """The chance as a number of lists of random pairs, of which there are equally many from each jar of a level."""
        if person_after(turn, many) == person:
            return max([value for draw, value in found])
        return sum([count_pairs(counts, draw) * value for draw, value in found])

    ends = [1 if (colour in wanted) == (person == FIRST) else 0 for colour in range(table.size)]
    values = values_of_jars(table.rows(), jar.counts(), ends, value_of)
    whole = 1
    for made in range(jar.total - 1):
        if person_after(turn, made) != person:
            whole *= count_all_pairs(jar.total - made)
    return in_lowest_terms(values[tuple(jar.counts())], whole)
