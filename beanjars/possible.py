"""The possible last beans of a jar, ways to them, and exclusions of other colours."""

from beanjars.arguments import is_pair, need_colours
from beanjars.checks import draw_of
from beanjars.errors import InvalidShape, LimitExceeded, NoWay
from beanjars.jars import need_beans
from beanjars.parts import count_parts, origins_of_parts
from beanjars.shapes import beans_of_classes, class_of_counts, classes_of, count_classes, is_bound_for, is_shape

MOST_PARTS = 200
MOST_CLASSES = 100


def need_few_parts(jar):
    """Raise LimitExceeded if a jar has too many parts."""
    if count_parts(jar.counts()) > MOST_PARTS:
        raise LimitExceeded(MOST_PARTS)


def need_shape(shape, size):
    """Raise InvalidShape if a value, which can be any, is no shape for so many colours."""
    if not is_shape(shape, size):
        raise InvalidShape()


def need_few_classes(shape):
    """Raise LimitExceeded if a shape has too many classes."""
    if count_classes(shape) > MOST_CLASSES:
        raise LimitExceeded(MOST_CLASSES)


def last_beans(table, jar):
    """The possible last beans of a jar, sorted."""
    need_beans(table, jar)
    need_few_parts(jar)
    return sorted(list(origins_of_parts(table, jar)[tuple(jar.counts())]))


def way_to(table, jar, colour):
    """A way of a jar that leads to a colour."""
    need_beans(table, jar)
    need_colours([colour], table.size)
    need_few_parts(jar)
    known = origins_of_parts(table, jar)
    counts = tuple(jar.counts())
    if colour not in known[counts]:
        raise NoWay()
    # From the last draw back: the draws of a part may come at any time before its bean is drawn.
    way = []
    waiting = [(counts, colour)]
    while waiting:
        part, bean = waiting.pop()
        origin = known[part][bean]
        if origin is not None:
            one, other = origin
            way.append(draw_of(one[1], other[1]))
            waiting.extend([one, other])
    return way[::-1]


def class_of(shape, jar):
    """The class of a jar, a tuple."""
    need_shape(shape, jar.size)
    return class_of_counts(shape, jar.counts())


def class_sets(table, shape):
    """A dict from all classes with beans to the sorted colours that are possible last beans of jars of the class."""
    need_shape(shape, table.size)
    need_few_classes(shape)
    classes = classes_of(shape)
    held = beans_of_classes(table.rows(), shape, classes)
    return {
        counts: [colour for colour in range(table.size) if (number, colour) in held]
        for number, counts in enumerate(classes) if number > 0
    }


def is_bound(table, shape, value):
    """Whether a value, which can be any, is a bound for a shape."""
    need_shape(shape, table.size)
    need_few_classes(shape)
    return is_bound_for(table.rows(), shape, value)


def exclusion(table, jar, colour, *, shape=None):
    """An exclusion of a colour for a jar with this shape, or None if there is none."""
    need_beans(table, jar)
    need_colours([colour], table.size)
    if shape is None:
        # With this shape a jar is alone in its class.
        shape = [(count + 1, 1) for count in jar.counts()]
    # The bound with the fewest colours has the colour only if each other bound has it, too.
    bound = class_sets(table, shape)
    if colour in bound[class_of(shape, jar)]:
        return None
    return (list(shape), bound)


def is_exclusion(table, jar, colour, value):
    """Whether a value, which can be any, is an exclusion of a colour for a jar."""
    need_beans(table, jar)
    need_colours([colour], table.size)
    if not is_pair(value):
        return False
    shape, bound = value
    if not is_shape(shape, table.size) or count_classes(shape) > MOST_CLASSES:
        return False
    return is_bound_for(table.rows(), shape, bound) and colour not in bound[class_of(shape, jar)]
