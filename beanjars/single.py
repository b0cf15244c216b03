"""Jars of one colour: their possible last beans, which repeat from some number of beans on."""

from beanjars.arguments import is_colour, is_integer, is_pair, need_colours, need_number
from beanjars.errors import LimitExceeded
from beanjars.jars import need_same_size

USUAL_MOST = 60
LEAST_MOST = 2
GREATEST_MOST = 100
MOST_SETS = 200
MOST_LISTS = 100


def colours_in(bits):
    """The colours whose bits are set, ascending."""
    return [colour for colour in range(bits.bit_length()) if (bits >> colour) & 1 == 1]


def product_bits(rows, one, other):
    """The bits of all beans of a colour of one set and a colour of another one."""
    bits = 0
    for x in colours_in(one):
        for y in colours_in(other):
            bits |= 1 << rows[x][y]
    return bits


def set_bits(table, colour, many):
    """The sets S(1), .., S(many), each as an integer with a bit for each colour, at their numbers in a list."""
    rows = table.rows()
    found = [0, 1 << colour]
    # The same two sets meet at many numbers of beans.
    products = {}
    for count in range(2, many + 1):
        bits = 0
        for part in range(1, count // 2 + 1):
            pair = (found[part], found[count - part])
            if pair not in products:
                products[pair] = product_bits(rows, pair[0], pair[1])
            bits |= products[pair]
        found.append(bits)
    return found


def least_start(found, length):
    """The least number from which on all sets that were found repeat with a period of this length."""
    start = len(found) - length
    while start > 1 and found[start - 1] == found[start - 1 + length]:
        start -= 1
    return start


def found_period(table, colour, most):
    """The least period with its least start, as a tuple (start, period), and the sets up to twice the limit."""
    found = set_bits(table, colour, 2 * most)
    for length in range(1, most):
        start = least_start(found, length)
        # Then the sets from start up to 2 * start + length, which show that they repeat, are among those found.
        if start + length <= most:
            return (start, length, found)
    raise LimitExceeded(most)


def need_most(most):
    """Raise InvalidNumber if a value, which can be any, is no limit."""
    need_number(most, LEAST_MOST, GREATEST_MOST)


def power_sets(table, colour, many):
    """The lists S(1), .., S(many)."""
    need_colours([colour], table.size)
    need_number(many, 1, MOST_SETS)
    return [colours_in(bits) for bits in set_bits(table, colour, many)[1:]]


def power_table(table, colour, *, most=USUAL_MOST):
    """The power table with the least period and its least start."""
    need_colours([colour], table.size)
    need_most(most)
    start, length, found = found_period(table, colour, most)
    return (start, [colours_in(bits) for bits in found[1:start + length]])


def period(table, colour, *, most=USUAL_MOST):
    """The least period with its least start, as a tuple (start, period)."""
    start, sets = power_table(table, colour, most=most)
    return (start, len(sets) + 1 - start)


def number_within(count, start, length):
    """The number of beans below start + length that has the same possible last beans as this number of beans."""
    return count if count < start else start + (count - start) % length


def beans_of_many(table, colour, count, *, most=USUAL_MOST):
    """The list S(count)."""
    need_colours([colour], table.size)
    need_number(count, 1, None)
    start, sets = power_table(table, colour, most=most)
    return sets[number_within(count, start, len(sets) + 1 - start) - 1]


def is_list_of_colours(value, size):
    """Whether a value, which can be any, is a list of colours."""
    return isinstance(value, list) and all([is_colour(colour, size) for colour in value])


def has_form(value, size):
    """Whether a value, which can be any, is a tuple of a start and a list of not too many lists of colours."""
    if not is_pair(value):
        return False
    start, sets = value
    if not isinstance(sets, list) or not 1 <= len(sets) <= MOST_LISTS:
        return False
    if not is_integer(start) or not 1 <= start <= len(sets):
        return False
    return all([is_list_of_colours(colours, size) for colours in sets])


def is_power_table(table, colour, value):
    """Whether a value, which can be any, is a power table of a colour."""
    need_colours([colour], table.size)
    if not has_form(value, table.size):
        return False
    start, sets = value
    length = len(sets) + 1 - start
    found = set_bits(table, colour, 2 * (start + length))
    if [colours_in(bits) for bits in found[1:len(sets) + 1]] != sets:
        return False
    return least_start(found, length) <= start


def leading_numbers(table, colour, wanted, most):
    """The numbers of beans that can lead to a colour, before the start and in the first period, and the period."""
    start, sets = power_table(table, colour, most=most)
    numbers = [count for count, colours in enumerate(sets, start=1) if wanted in colours]
    early = [count for count in numbers if count < start]
    return (early, numbers[len(early):], len(sets) + 1 - start)


def count_leading(table, colour, wanted, high, *, most=USUAL_MOST):
    """For how many numbers of beans from 1 to high a colour is a possible last bean."""
    need_colours([colour, wanted], table.size)
    need_number(high, 0, None)
    early, repeated, length = leading_numbers(table, colour, wanted, most)
    many = len([count for count in early if count <= high])
    return many + sum([(high - count) // length + 1 for count in repeated if count <= high])


def nth_leading(table, colour, wanted, number, *, most=USUAL_MOST):
    """The number-th number of beans for which a colour is a possible last bean, or None if there are fewer."""
    need_colours([colour, wanted], table.size)
    need_number(number, 1, None)
    early, repeated, length = leading_numbers(table, colour, wanted, most)
    if number <= len(early):
        return early[number - 1]
    if not repeated:
        return None
    periods, at = divmod(number - len(early) - 1, len(repeated))
    return repeated[at] + periods * length


def first_difference(table, other, colour, *, most=USUAL_MOST):
    """The least number of beans of a colour whose possible last beans differ in two tables, or None."""
    need_same_size(table, other)
    need_colours([colour], table.size)
    need_most(most)
    start, length, found = found_period(table, colour, most)
    second_start, second_length, second = found_period(other, colour, most)
    # From the later start on both repeat together after the product of the periods.
    for count in range(1, max(start, second_start) + length * second_length):
        one = found[number_within(count, start, length)]
        if one != second[number_within(count, second_start, second_length)]:
            return count
    return None
