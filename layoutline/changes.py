"""Changes of classes: their values and their bases, and the readers that a change spoils."""

from layoutline.checks import MOST_VALUES, check_bases, check_class, check_name, check_value
from layoutline.errors import BelowItself, Duplicate, LayoutMoves, NoName, TooMany
from layoutline.finding import first_declaration, first_declarations, reader_of
from layoutline.shapes import Shape
from layoutline.tables import sorted_names


def set_value(world, number, name, value):
    """Give a class a value by a name and return the spoilt readers."""
    check_class(number, world.count())
    check_name(name)
    check_value(value)
    if name in world.fields(number):
        raise Duplicate(name)
    table = world.table(number)
    if name not in table and len(table) >= MOST_VALUES:
        raise TooMany(MOST_VALUES)
    table[name] = value
    return _change_table(world, number, name, table)


def drop_value(world, number, name):
    """Take the value by a name away from a class and return the spoilt readers."""
    check_class(number, world.count())
    check_name(name)
    table = world.table(number)
    if name not in table:
        raise NoName(name)
    del table[name]
    return _change_table(world, number, name, table)


def set_bases(world, number, bases):
    """Give a class other bases and return the spoilt readers."""
    shapes = _shapes_with_bases(world, number, bases)
    spoilt = _spoilt_by_shapes(world, shapes)
    world.replace_shapes(shapes)
    return spoilt


def spoilt_by(world, number, bases):
    """Return or raise what set_bases would, and change nothing."""
    return _spoilt_by_shapes(world, _shapes_with_bases(world, number, bases))


def _change_table(world, number, name, table):
    """Give a class a table that is another one by this name alone."""
    before = _readers_by(world, name)
    world.replace_table(number, table)
    after = _readers_by(world, name)
    return [(place, name) for place, old in enumerate(before) if old != after[place]]


def _readers_by(world, name):
    """Return by class the reader by a name."""
    shapes = world.shapes()
    tables = world.tables()
    return [reader_of(first_declaration(place, name, shapes, tables)) for place in range(len(shapes))]


def _spoilt_by_shapes(world, shapes):
    """Return the readers that would be spoilt if the classes had these shapes."""
    tables = world.tables()
    return _spoilt(_readers(world.shapes(), tables), _readers(shapes, tables))


def _readers(shapes, tables):
    """Return by class the readers by name."""
    classes = [first_declarations(number, shapes, tables) for number in range(len(shapes))]
    return [{name: reader_of(found[name]) for name in found} for found in classes]


def _spoilt(before, after):
    """Return the ascending list of the tuples (class, name) of which the readers are unlike."""
    spoilt = []
    for number, old in enumerate(before):
        new = after[number]
        names = sorted_names({**old, **new})
        spoilt.extend([(number, name) for name in names if old.get(name) != new.get(name)])
    return spoilt


def _shapes_with_bases(world, number, bases):
    """Return the shapes of all classes if a class had these bases, or raise what makes that impossible."""
    check_class(number, world.count())
    check_bases(bases, world.count())
    concerned = [number] + world.below(number)
    for base in bases:
        if base in concerned:
            raise BelowItself(base)
    shapes = world.shapes()
    order = _bases_first(concerned, shapes)
    for place in order:
        old = shapes[place]
        chosen = bases if place == number else old.bases()
        shapes[place] = Shape(place, chosen, old.fields(), old.declares_room(), shapes)
        offset = old.layout().first_difference(shapes[place].layout())
        if offset is not None and world.living(place) > 0:
            raise LayoutMoves(place, offset)
    return shapes


def _bases_first(concerned, shapes):
    """Return a class and the ascending classes below it, bases first, then the least number first."""
    waiting = list(concerned)
    order = []
    while waiting:
        ready = [place for place in waiting if not any([base in waiting for base in shapes[place].bases()])]
        order.append(ready[0])
        waiting.remove(ready[0])
    return order
