"""Tables from names to values, as classes and rooms have them."""


def pairs_of(table):
    """Return the list of the tuples (name, value) of a table, ascending by name."""
    return [(name, table[name]) for name in sorted_names(table)]


def sorted_names(names):
    """Return the ascending list of the names in a list or a table."""
    return sorted([str(name) for name in names])
