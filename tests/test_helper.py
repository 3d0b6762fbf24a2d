"""The quick answers for greater nets are the plain ones, which follow the document's words, where both can be had."""

import unittest

from tests.helper import (
    is_least, is_tame, middle_nets, nets_with_doors_alike, plain_bars, plain_guards, plain_joins, quick_bars,
    quick_guards, quick_joins, shrinks_to_one, small_nets, tame_nets)


class TestQuickAnswers(unittest.TestCase):

    def test_on_lesser_nets(self):
        for nets in (small_nets(), nets_with_doors_alike(), middle_nets()):
            for rooms, doors in nets:
                told = plain_guards(doors)
                self.assertEqual(quick_guards(doors), told)
                self.assertEqual(quick_bars(doors, told), plain_bars(doors))
                self.assertEqual(shrinks_to_one(doors), is_tame(doors, told))
                for some, joined in plain_joins(doors, told).items():
                    self.assertEqual(quick_joins(doors, some), joined)
                    self.assertTrue(is_least(doors, some, frozenset(joined)))

    def test_tame_nets_are_tame(self):
        for rooms, doors in tame_nets():
            self.assertTrue(shrinks_to_one(doors), doors)

    def test_both_tame_nets_and_others_are_among_the_middle_ones(self):
        answers = [shrinks_to_one(doors) for rooms, doors in middle_nets()]
        self.assertGreater(answers.count(True), 50)
        self.assertGreater(answers.count(False), 50)


if __name__ == "__main__":
    unittest.main()
