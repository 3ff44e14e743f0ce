"""Finding: what a class has by a name, and what hides what."""

from layoutline.checks import check_class, check_classes, check_name
from layoutline.shapes import collision_of
from layoutline.tables import sorted_names


def find(world, number, name):
    """Return ("field", class, offset), ("value", class, value) or None: the first declaration of a name."""
    check_class(number, world.count())
    check_name(name)
    return first_declaration(number, name, world.shapes(), world.tables())


def reader(world, number, name):
    """Return ("field", offset), ("value", class) or None, for what find returns."""
    return reader_of(find(world, number, name))


def names_of(world, number):
    """Return the ascending list of the names that the classes in the order of a class declare."""
    check_class(number, world.count())
    return sorted_names(first_declarations(number, world.shapes(), world.tables()))


def hidden(world, number):
    """Return the ascending list of the tuples (class, name) that find does not return for a class."""
    check_class(number, world.count())
    shapes = world.shapes()
    tables = world.tables()
    found = first_declarations(number, shapes, tables)
    order = shapes[number].order()
    rows = []
    for place in range(world.count()):
        if place in order:
            names = sorted_names(shapes[place].fields() + list(tables[place]))
            rows.extend([(place, name) for name in names if found[name][1] != place])
    return rows


def could_meet(world, numbers):
    """Return None if the owners of some classes lie on one line, else (owners, offset, names) of two."""
    check_classes(numbers, world.count())
    return collision_of(numbers, world.shapes())


def first_declaration(number, name, shapes, tables):
    """Return what find returns for a class, where shapes and tables are those of all classes."""
    for place in shapes[number].order():
        offset = shapes[place].own_offset(name)
        if offset is not None:
            return ("field", place, offset)
        if name in tables[place]:
            return ("value", place, tables[place][name])
    return None


def first_declarations(number, shapes, tables):
    """Return by name what find returns for a class, of all names that are found."""
    found = {}
    for place in shapes[number].order():
        for name in shapes[place].fields():
            found.setdefault(name, ("field", place, shapes[place].own_offset(name)))
        for name, value in tables[place].items():
            found.setdefault(name, ("value", place, value))
    return found


def reader_of(found):
    """Return the reader for what find returns."""
    if found is None:
        return None
    word, place, thing = found
    return ("field", thing) if word == "field" else ("value", place)
