"""Merging lists into one order, and the rings that stand in the way of one."""

from layoutline.checks import check_unlike
from layoutline.errors import BadList, TooMany
from layoutline.kinds import is_int

MOST_ITEMS = 30


def merge(lists):
    """Return ("order", order), or ("ring", ring) if no order keeps each list in order."""
    _check_lists(lists)
    rests = [list(items) for items in lists]
    behind = _times_behind(lists)
    order = []
    while any(rests):
        item = _first_free(rests, behind)
        if item is None:
            return ("ring", _ring_of(rests))
        order.append(item)
        _take(item, rests, behind)
    return ("order", order)


def shows_merge(lists, paper):
    """Tell whether any object is what merge may return for these lists."""
    merged = merge(lists)
    if not isinstance(paper, tuple) or len(paper) != 2:
        return False
    word, thing = paper
    if not isinstance(word, str):
        return False
    if word == "order":
        return _is_list_of_ints(thing) and merged == ("order", thing)
    return word == "ring" and is_ring(lists, thing)


def is_ring(lists, ring):
    """Tell whether any object is a ring of these lists of unlike integers."""
    if not isinstance(ring, list) or len(ring) < 2:
        return False
    if not all([_is_part(part, len(lists)) for part in ring]):
        return False
    if len({part[0] for part in ring}) < len(ring):
        return False
    nexts = ring[1:] + ring[:1]
    return all([_stands_ahead(part[0], follower[0], lists[part[1]]) for part, follower in zip(ring, nexts)])


def _check_lists(lists):
    if not isinstance(lists, list) or not all([_is_list_of_ints(items) for items in lists]):
        raise BadList("lists")
    if len(lists) > MOST_ITEMS or any([len(items) > MOST_ITEMS for items in lists]):
        raise TooMany(MOST_ITEMS)
    for items in lists:
        check_unlike(items)


def _is_list_of_ints(items):
    return isinstance(items, list) and all([is_int(item) for item in items])


def _times_behind(lists):
    """Return by item in how many lists it stands behind the first item."""
    behind = {item: 0 for items in lists for item in items}
    for items in lists:
        for item in items[1:]:
            behind[item] += 1
    return behind


def _first_free(rests, behind):
    for rest in rests:
        if rest and behind[rest[0]] == 0:
            return rest[0]
    return None


def _take(item, rests, behind):
    for rest in rests:
        if rest and rest[0] == item:
            del rest[0]
            if rest:
                behind[rest[0]] -= 1


def _ring_of(rests):
    """Return a ring of lists in which each first item stands behind another first item."""
    # Going from first item to first item ahead of it must come back to an item,
    # and the way since then, backwards, is a ring.
    way = []
    places = {}
    item = [rest[0] for rest in rests if rest][0]
    while item not in places:
        places[item] = len(way)
        index = [at for at, rest in enumerate(rests) if item in rest[1:]][0]
        item = rests[index][0]
        way.append((item, index))
    return way[places[item]:][::-1]


def _is_part(part, many):
    """Tell whether any object is a tuple (item, index) for so many lists."""
    if not isinstance(part, tuple) or len(part) != 2:
        return False
    return is_int(part[0]) and is_int(part[1]) and 0 <= part[1] < many


def _stands_ahead(item, follower, items):
    return item in items and follower in items[items.index(item) + 1:]
