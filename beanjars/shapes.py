"""Shapes, which divide all jars into few classes, and bounds for the last beans of the jars of each class."""

from beanjars.arguments import is_colour, is_integer, is_pair, is_sequence
from beanjars.parts import all_up_to


def is_start_and_period(value):
    """Whether a value, which can be any, is a tuple of two integers of at least 1."""
    return is_pair(value) and all([is_integer(number) and number >= 1 for number in value])


def is_shape(value, size):
    """Whether a value, which can be any, is a shape for so many colours."""
    return is_sequence(value) and len(value) == size and all([is_start_and_period(item) for item in value])


def count_classes(shape):
    """The number of classes of a shape."""
    many = 1
    for start, period in shape:
        many *= start + period
    return many


def class_of_counts(shape, counts):
    """The class of a jar with these counts, a tuple."""
    return tuple([
        count if count < start else start + (count - start) % period
        for (start, period), count in zip(shape, counts)
    ])


def classes_of(shape):
    """All classes of a shape, ascending; the first one is that of the empty jar."""
    return all_up_to([start + period - 1 for start, period in shape])


def class_sums(shape, classes):
    """For each two classes the class of their sum, all of them as indexes in the list of the classes."""
    numbers = {counts: number for number, counts in enumerate(classes)}
    return [
        [numbers[class_of_counts(shape, [m + n for m, n in zip(one, other)])] for other in classes]
        for one in classes
    ]


def single_beans(shape, classes):
    """For each colour the index of the class of the jar with one bean of this colour, with the colour."""
    size = len(shape)
    found = []
    for colour in range(size):
        counts = [1 if other == colour else 0 for other in range(size)]
        found.append((classes.index(class_of_counts(shape, counts)), colour))
    return found


def beans_of_classes(rows, shape, classes):
    """All tuples of a class's index and a colour that is a possible last bean of some jar of the class, in a dict."""
    sums = class_sums(shape, classes)
    held = {pair: True for pair in single_beans(shape, classes)}
    waiting = list(held)
    done = []
    while waiting:
        number, x = waiting.pop()
        done.append((number, x))
        for other, y in done:
            pair = (sums[number][other], rows[x][y])
            if pair not in held:
                held[pair] = True
                waiting.append(pair)
    return held


def is_class(value, shape):
    """Whether a value, which can be any, is a class of a shape other than that of the empty jar."""
    if not isinstance(value, tuple) or len(value) != len(shape) or not all([is_integer(count) for count in value]):
        return False
    if not all([0 <= count < start + period for (start, period), count in zip(shape, value)]):
        return False
    return any([count > 0 for count in value])


def has_lists(value, shape):
    """Whether a value, which can be any, is a dict from all classes but the first one to lists of colours."""
    if not isinstance(value, dict) or len(value) != count_classes(shape) - 1:
        return False
    for key, colours in value.items():
        if not is_class(key, shape) or not isinstance(colours, list):
            return False
        if not all([is_colour(colour, len(shape)) for colour in colours]):
            return False
    return True


def contains_products(rows, one, other, colours):
    """Whether some colours contain all beans of a bean of one list and a bean of another one."""
    for x in one:
        for y in other:
            if rows[x][y] not in colours:
                return False
    return True


def is_bound_for(rows, shape, value):
    """Whether a value, which can be any, is a bound for a shape with few classes."""
    if not has_lists(value, shape):
        return False
    classes = classes_of(shape)
    # Lists with repeated colours can be long; the lists here have each colour once.
    lists = [[]] + [[colour for colour in range(len(rows)) if colour in value[counts]] for counts in classes[1:]]
    if not all([colour in lists[number] for number, colour in single_beans(shape, classes)]):
        return False
    sums = class_sums(shape, classes)
    for at, one in enumerate(lists):
        for to in range(at, len(lists)):
            if not contains_products(rows, one, lists[to], lists[sums[at][to]]):
                return False
    return True
