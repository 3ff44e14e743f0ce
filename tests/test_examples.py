"""The examples of the document that use the modules so far, and those of the README."""

import doctest
import os
import unittest

from layoutline.errors import Duplicate
from layoutline.layouts import Layout
from layoutline.orders import merge, shows_merge
from tests.helpers import Case

README = os.path.join(os.path.dirname(os.path.dirname(os.path.abspath(__file__))), "README.md")


class LayoutExamples(Case):

    def test_reading(self):
        layout = Layout(['a', 'b']) + ['a']
        found = [layout, len(layout), layout[2], layout.offset_of('a'), 'c' in layout]
        self.assertEqual(found, [Layout(['a', 'b', 'a'], False), 3, 'a', 2, False])
        self.assertEqual(repr(found), "[Layout(['a', 'b', 'a'], False), 3, 'a', 2, False]")

    def test_comparing(self):
        found = [
            Layout(['a']) <= Layout(['a', 'b']), Layout(['a'], True) <= Layout(['a', 'b']),
            Layout(['a']).first_difference(Layout(['a'], True)),
        ]
        self.assertEqual(found, [True, False, 1])

    def test_adding_a_duplicate(self):
        self.assert_raises(Duplicate, lambda: Layout(['a']) + ['b', 'b'], thing='b')


class OrderExamples(Case):

    def test_an_order(self):
        self.assertEqual(merge([[1, 0], [2, 0], [1, 2]]), ('order', [1, 2, 0]))

    def test_a_ring(self):
        lists = [[1, 2], [2, 1]]
        self.assertEqual([merge(lists)[0], shows_merge(lists, ('ring', [(1, 0), (2, 1)]))], ['ring', True])

    def test_papers(self):
        lists = [[1, 2], [2, 3]]
        found = [shows_merge(lists, ('order', [1, 2, 3])), shows_merge(lists, ('order', [2, 1, 3]))]
        self.assertEqual(found, [True, False])

    def test_a_duplicate(self):
        self.assert_raises(Duplicate, merge, [[3, 4, 3]], thing=3)


class Readme(unittest.TestCase):

    def test_its_examples(self):
        failed, tried = doctest.testfile(README, module_relative=False)
        self.assertEqual(failed, 0)
        self.assertGreater(tried, 5)


if __name__ == "__main__":
    unittest.main()
