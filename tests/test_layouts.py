"""Layouts: points 2.1 to 2.4, and 0.2 to 0.4 for them."""

import itertools
import unittest

from layoutline.errors import BadList, BadName, BadOffset, Duplicate, TooMany
from layoutline.layouts import Layout
from tests.helpers import NOT_NAMES, Case, EqualToAll, Incomparable, odd_values


def all_layouts(names, longest):
    """Return all layouts of these names with at most so many fields."""
    rows = [row for count in range(longest + 1) for row in itertools.product(names, repeat=count)]
    return [Layout(list(row), room) for row in rows for room in (False, True)]


class Making(Case):

    def test_fields_and_room(self):
        for fields in [[], ["a"], ["a", "b"], ["a", "b", "a", "a"], ["abcdefgh", "z"], ["a"] * 200]:
            self.assertEqual(Layout(fields).fields(), fields)
            self.assertIs(Layout(fields).has_room(), False)
            self.assertIs(Layout(fields, False).has_room(), False)
            self.assertIs(Layout(fields, True).has_room(), True)
            self.assertEqual(Layout(fields, True).fields(), fields)

    def test_names_of_every_letter_and_length(self):
        for letter in "abcdefghijklmnopqrstuvwxyz":
            for count in range(1, 9):
                self.assertEqual(Layout([letter * count]).fields(), [letter * count])
            self.assert_raises(BadName, Layout, [letter * 9])

    def test_fields_that_are_no_list(self):
        for fields in [*odd_values(), 0, True, "", "ab", Layout(["a"])]:
            self.assert_raises(BadList, Layout, fields, why="fields")

    def test_items_that_are_no_names(self):
        for thing in [*odd_values(), *NOT_NAMES, 0, 7, True, [], ["a"], Layout([])]:
            self.assert_raises(BadName, Layout, [thing], name=thing)
            self.assert_raises(BadName, Layout, ["a", thing, "b"], name=thing)

    def test_the_first_item_that_is_no_name(self):
        self.assert_raises(BadName, Layout, ["a", "B", "C"], name="B")
        wrong = ["a"]
        self.assert_raises(BadName, Layout, ["a", wrong, "C"], name=wrong)

    def test_a_room_that_is_no_bool(self):
        for thing in [*odd_values(), 0, 1, "", "a", []]:
            self.assert_raises(BadList, Layout, [], thing, why="room")
            self.assert_raises(BadList, Layout, ["a"], thing, why="room")

    def test_the_first_stated_error_is_raised(self):
        self.assert_raises(BadList, Layout, ("A",), 1, why="fields")
        self.assert_raises(BadList, Layout, None, True, why="fields")
        self.assert_raises(BadName, Layout, ["A"], 1, name="A")
        self.assert_raises(BadName, Layout, ["a", None], None, name=None)

    def test_with_room(self):
        for room in (False, True):
            layout = Layout(["a", "b", "a"], room)
            roomy = layout.with_room()
            self.assertIsInstance(roomy, Layout)
            self.assertEqual(roomy.fields(), ["a", "b", "a"])
            self.assertIs(roomy.has_room(), True)
            self.assertIs(layout.has_room(), room)
        self.assertEqual(Layout([]).with_room(), Layout([], True))


class Immutable(Case):

    def test_neither_list_is_shared(self):
        fields = ["a", "b"]
        layout = Layout(fields)
        fields[0] = "c"
        fields.append("d")
        self.assertEqual(layout.fields(), ["a", "b"])
        layout.fields().append("e")
        layout.fields().clear()
        self.assertEqual(layout.fields(), ["a", "b"])
        self.assertEqual(layout.with_room().fields(), ["a", "b"])

    def test_the_list_that_was_added_is_not_shared(self):
        more = ["b"]
        layout = Layout(["a"])
        longer = layout + more
        more.append("c")
        self.assertEqual(longer.fields(), ["a", "b"])
        self.assertEqual(more, ["b", "c"])

    def test_no_call_changes_a_layout_or_an_argument(self):
        layout, other = Layout(["a", "b"]), Layout(["a"], True)
        more = ["c", "a"]
        kept = layout
        kept.fields().append("x")
        kept.with_room().fields().append("x")
        kept += more
        kept.first_difference(other)
        self.assertEqual(kept.fields(), ["a", "b", "c", "a"])
        self.assertEqual((repr(layout), repr(other)), ("Layout(['a', 'b'], False)", "Layout(['a'], True)"))
        self.assertEqual(more, ["c", "a"])

    def test_nothing_can_be_set(self):
        layout = Layout(["a", "b"])
        with self.assertRaises(TypeError):
            layout[0] = "c"
        with self.assertRaises(TypeError):
            del layout[0]
        for name in ("fields", "has_room", "more"):
            with self.assertRaises(AttributeError):
                setattr(layout, name, "c")
        self.assertEqual(layout, Layout(["a", "b"]))

    def test_an_error_changes_nothing(self):
        layout = Layout(["a"])
        for call in [
            lambda: layout[1], lambda: layout + ["b", "b"], lambda: layout + ["B"], lambda: layout.offset_of("A"),
        ]:
            with self.assertRaises(ValueError):
                call()
        self.assertEqual(repr(layout), "Layout(['a'], False)")

    def test_a_repeated_call_returns_an_equal_result(self):
        layout = Layout(["a", "b", "a"], True)
        for call in [layout.fields, layout.has_room, layout.with_room, lambda: layout + ["c"], layout.__repr__]:
            self.assertEqual(call(), call())


class Reading(Case):

    def test_len(self):
        for fields in [[], ["a"], ["a", "a"], ["a", "b", "c"] * 10]:
            self.assertEqual(len(Layout(fields)), len(fields))
            self.assertEqual(len(Layout(fields, True)), len(fields))

    def test_items(self):
        fields = ["a", "b", "a", "c"]
        layout = Layout(fields)
        self.assertEqual([layout[offset] for offset in range(4)], fields)

    def test_bad_offsets(self):
        for layout in [Layout(["a", "b"]), Layout(["a", "b"], True)]:
            for offset in [
                *odd_values(), -1, -2, 2, 3, 10 ** 30, -10 ** 30, True, False, "", "a", "0", [], [0], (0,),
                slice(None), slice(0, 1),
            ]:
                self.assert_raises(BadOffset, layout.__getitem__, offset, offset=offset)
                self.assert_raises(BadOffset, lambda: layout[offset], offset=offset)

    def test_a_layout_without_fields_has_no_offset(self):
        for offset in (0, -1, 1, False):
            self.assert_raises(BadOffset, lambda: Layout([])[offset], offset=offset)

    def test_in(self):
        layout = Layout(["a", "bc", "a"])
        for name, found in [("a", True), ("bc", True), ("b", False), ("c", False), ("abca", False)]:
            self.assertIs(name in layout, found)
        self.assertIs("a" in Layout([]), False)

    def test_what_is_no_name_is_not_in(self):
        layout = Layout(["a", "b"])
        for thing in [*odd_values(), *NOT_NAMES, 0, 1, True, [], ["a"], layout]:
            self.assertIs(thing in layout, False)
            self.assertIs(thing not in layout, True)

    def test_offset_of_is_the_greatest(self):
        layout = Layout(["a", "b", "a", "c", "b"], True)
        found = [layout.offset_of(name) for name in ("a", "b", "c", "d", "ab")]
        self.assertEqual(found, [2, 4, 3, None, None])
        self.assertEqual(Layout(["a"]).offset_of("a"), 0)
        self.assertIsNone(Layout([]).offset_of("a"))

    def test_offset_of_what_is_no_name(self):
        for layout in [Layout(["a", "b"]), Layout([])]:
            for thing in [*odd_values(), *NOT_NAMES, 0, 1, True, [], ["a"], layout]:
                self.assert_raises(BadName, layout.offset_of, thing, name=thing)

    def test_repr(self):
        self.assertEqual(repr(Layout([])), "Layout([], False)")
        self.assertEqual(repr(Layout(["a", "b"])), "Layout(['a', 'b'], False)")
        self.assertEqual(repr(Layout(["a", "a"], True)), "Layout(['a', 'a'], True)")
        self.assertEqual(str(Layout(["abcdefgh"], True)), "Layout(['abcdefgh'], True)")


class Comparing(Case):

    def test_all_pairs_of_short_layouts(self):
        layouts = all_layouts("ab", 3)
        for one, other in itertools.product(layouts, repeat=2):
            same = one.fields() == other.fields() and one.has_room() == other.has_room()
            self.assertIs(one == other, same)
            self.assertIs(one != other, not same)
            begins = other.fields()[:len(one)] == one.fields()
            self.assertIs(one <= other, begins and (other.has_room() or not one.has_room()))

    def test_first_difference_of_all_pairs(self):
        layouts = all_layouts("ab", 3)
        for one, other in itertools.product(layouts, repeat=2):
            pairs = list(zip(one.fields(), other.fields()))
            unlike = [offset for offset, (a, b) in enumerate(pairs) if a != b]
            wanted = unlike[0] if unlike else None if one == other else len(pairs)
            self.assertEqual(one.first_difference(other), wanted, (one, other))

    def test_equal(self):
        self.assertIs(Layout(["a"]) == Layout(["a"]), True)
        self.assertIs(Layout(["a"]) == Layout(["a"], True), False)
        self.assertIs(Layout(["a"]).with_room() == Layout(["a"], True), True)
        self.assertIs(Layout([]) == Layout([]), True)
        self.assertIs(Layout(["a", "b"]) == Layout(["b", "a"]), False)

    def test_not_equal_to_any_other_object(self):
        for layout in [Layout([]), Layout(["a"])]:
            for thing in [*odd_values(), 0, False, "", "a", [], ["a"], ("a",), repr(layout)]:
                if isinstance(thing, Incomparable):
                    continue
                self.assertIs(layout == thing, False)
                self.assertIs(layout != thing, True)
        self.assertIs(Layout(["a"]) == EqualToAll(), False)
        self.assertIs(Layout(["a"]) == Incomparable(), False)

    def test_less_or_equal_with_the_room(self):
        short, long = Layout(["a"]), Layout(["a", "b"])
        self.assertEqual([short <= long, short <= short, long <= short], [True, True, False])
        self.assertEqual([short <= long.with_room(), short.with_room() <= long.with_room()], [True, True])
        self.assertEqual([short.with_room() <= long, short.with_room() <= short], [False, False])
        self.assertEqual([Layout([]) <= short, Layout([], True) <= short, Layout(["b"]) <= long], [True, False, False])

    def test_first_difference(self):
        layout = Layout(["a", "b"])
        self.assertIsNone(layout.first_difference(Layout(["a", "b"])))
        self.assertEqual(layout.first_difference(Layout(["b", "b"])), 0)
        self.assertEqual(layout.first_difference(Layout(["a", "c", "d"], True)), 1)
        self.assertEqual(layout.first_difference(Layout(["a"])), 1)
        self.assertEqual(layout.first_difference(Layout(["a", "b", "c"])), 2)
        self.assertEqual(layout.first_difference(layout.with_room()), 2)
        self.assertEqual(Layout([]).first_difference(layout), 0)
        self.assertEqual(Layout([]).first_difference(Layout([], True)), 0)


class Adding(Case):

    def test_more_fields(self):
        for room in (False, True):
            layout = Layout(["a", "b"], room)
            self.assertEqual(layout + [], layout)
            self.assertEqual(layout + ["c"], Layout(["a", "b", "c"], room))
            self.assertEqual(layout + ["b", "a"], Layout(["a", "b", "b", "a"], room))
            self.assertIsInstance(layout + ["c"], Layout)
        self.assertEqual(Layout([]) + ["x", "y"] + ["x"], Layout(["x", "y", "x"]))

    def test_six_are_enough(self):
        six = ["a", "b", "c", "d", "e", "f"]
        self.assertEqual((Layout(six * 3) + six).fields(), six * 4)
        self.assert_raises(TooMany, Layout([]).__add__, six + ["g"], limit=6)
        self.assert_raises(TooMany, lambda: Layout(six) + (six + ["g", "h"]), limit=6)

    def test_what_is_no_list(self):
        for thing in [*odd_values(), 0, True, "", "ab", Layout(["b"])]:
            self.assert_raises(BadList, lambda: Layout(["a"]) + thing, why="fields")

    def test_what_is_no_name(self):
        for thing in [*odd_values(), *NOT_NAMES, 0, 7, True, [], ["a"]]:
            self.assert_raises(BadName, lambda: Layout(["a"]) + [thing], name=thing)
            self.assert_raises(BadName, lambda: Layout(["a"]) + ["b", thing, thing, "C"], name=thing)

    def test_duplicates(self):
        self.assert_raises(Duplicate, lambda: Layout(["a"]) + ["b", "b"], thing="b")
        self.assert_raises(Duplicate, lambda: Layout(["a"]) + ["b", "c", "c", "b"], thing="c")
        self.assert_raises(Duplicate, lambda: Layout([]) + ["a", "b", "a"], thing="a")

    def test_the_error_holds_the_value_that_was_passed(self):
        first, second = "".join(["b", "c"]), "".join(["b", "c"])
        self.assertIsNot(first, second)
        self.assert_raises(Duplicate, lambda: Layout([]) + [first, second], thing=second)

    def test_the_first_stated_error_is_raised(self):
        seven = ["a", "b", "c", "d", "e", "f", "g"]
        self.assert_raises(BadList, lambda: Layout([]) + tuple(seven + ["A"]), why="fields")
        self.assert_raises(BadName, lambda: Layout([]) + ["b", "b", "B"], name="B")
        self.assert_raises(BadName, lambda: Layout([]) + (seven + ["B"]), name="B")
        self.assert_raises(Duplicate, lambda: Layout([]) + (seven + ["g"]), thing="g")


if __name__ == "__main__":
    unittest.main()
