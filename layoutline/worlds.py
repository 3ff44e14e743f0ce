"""Worlds: the classes, with their bases, fields, values and rooms."""

from layoutline.checks import check_bases, check_class, check_more_fields, check_pairs
from layoutline.errors import BadList, TooMany
from layoutline.shapes import Shape
from layoutline.tables import pairs_of

MOST_CLASSES = 25


class World:
    """Classes by number, from class 0 on, which all others have above them."""

    def __init__(self):
        self._shapes = [Shape(0, [], [], False, [])]
        self._tables = [{}]
        self._lives = [0]

    def make_class(self, bases, fields, *, roomy=False, pairs=()):
        """Make a class and return its number."""
        check_bases(bases, self.count())
        check_more_fields(fields)
        if not isinstance(roomy, bool):
            raise BadList("room")
        check_pairs(pairs, fields)
        number = self.count()
        if number >= MOST_CLASSES:
            raise TooMany(MOST_CLASSES)
        shape = Shape(number, bases, fields, roomy, self._shapes)
        self._shapes.append(shape)
        self._tables.append({name: value for name, value in pairs})
        self._lives.append(0)
        return number

    def count(self):
        """Return the number of classes."""
        return len(self._shapes)

    def bases(self, number):
        """Return the list of the bases of a class."""
        return self._shape(number).bases()

    def fields(self, number):
        """Return the list of the fields that a class declares."""
        return self._shape(number).fields()

    def values(self, number):
        """Return the list of the tuples (name, value) that a class declares, ascending by name."""
        check_class(number, self.count())
        return pairs_of(self._tables[number])

    def declares_room(self, number):
        """Tell whether a class itself declares the room."""
        return self._shape(number).declares_room()

    def order(self, number):
        """Return the linear order of a class."""
        return self._shape(number).order()

    def owner(self, number):
        """Return the owner of the layout of a class."""
        return self.line(number)[0]

    def line(self, number):
        """Return the owner of a class, the owner of its bases, and so on up to class 0."""
        return self._shape(number).line()

    def layout(self, number):
        """Return the layout of a class."""
        return self._shape(number).layout()

    def below(self, number):
        """Return the ascending list of the other classes that have a class above them."""
        check_class(number, self.count())
        others = [place for place in range(self.count()) if place != number]
        return [place for place in others if number in self.order(place)]

    def living(self, number):
        """Return how many living objects a class has."""
        check_class(number, self.count())
        return self._lives[number]

    def shapes(self):
        """Return the list of the shapes of all classes."""
        return list(self._shapes)

    def tables(self):
        """Return by class the tables from its names to its values; they are only read."""
        return list(self._tables)

    def table(self, number):
        """Return the table from the names to the values of a class."""
        return dict(self._tables[number])

    def replace_shapes(self, shapes):
        """Take other shapes of all classes, as a change of bases makes them."""
        self._shapes = list(shapes)

    def replace_table(self, number, table):
        """Take another table from names to values for a class."""
        self._tables[number] = dict(table)

    def change_living(self, number, by):
        """Count so many more living objects of a class, or fewer."""
        self._lives[number] += by

    def _shape(self, number):
        check_class(number, self.count())
        return self._shapes[number]
