"""Points 9 and 10: edges, marks and joins."""

import unittest

from mustpass.marks import edge, joins
from mustpass.nets import Net
from tests.helper import (
    FORK, OUTSIDE, chain, come_to, doubly_come_to, greater_nets, is_least, lesser_nets, plain_edge, plain_guards,
    plain_joins, quick_guards, quick_joins)


class TestEdge(unittest.TestCase):

    def assert_edges(self, rooms, doors, told):
        net = Net(rooms, doors)
        for room in told:
            answer = edge(net, room)
            self.assertIs(type(answer), list)
            self.assertEqual(answer, plain_edge(doors, told, room))

    def test_a_written_out_net(self):
        net = Net(7, FORK)
        self.assertEqual([edge(net, room) for room in range(6)], [[], [1], [4], [4], [1], [1]])

    def test_rising_and_each_once(self):
        net = Net(7, [(0, 5), (5, 1), (5, 3), (5, 2), (1, 6), (1, 2), (1, 6), (5, 6), (3, 6), (0, 2), (1, 5), (5, 5)])
        self.assertEqual(edge(net, 1), [2, 5, 6])
        self.assertEqual(edge(net, 5), [2, 5])

    def test_a_room_is_in_its_own_edge_where_a_door_leads_back(self):
        self.assertEqual(edge(Net(2, [(0, 1), (1, 1)]), 1), [1])
        self.assertEqual(edge(Net(2, [(0, 1)]), 1), [])
        net = Net(3, [(0, 1), (1, 2), (2, 1)])
        self.assertEqual((edge(net, 1), edge(net, 2)), ([1], [1]))

    def test_room_0(self):
        self.assertEqual(edge(Net(1, []), 0), [])
        self.assertEqual(edge(Net(1, [(0, 0)]), 0), [0])
        self.assertEqual(edge(Net(3, [(0, 1), (0, 2), (1, 2)]), 0), [])
        self.assertEqual(edge(Net(3, [(0, 1), (0, 2), (1, 2), (2, 0)]), 0), [0])
        self.assertEqual(edge(Net(3, [(0, 1), (2, 0)]), 0), [])

    def test_rooms_that_are_not_reached(self):
        net = Net(5, OUTSIDE)
        self.assertEqual((edge(net, 0), edge(net, 1), edge(net, 2)), ([], [1], [1]))

    def test_forty_rooms(self):
        self.assertEqual(edge(Net(40, []), 0), [])
        net = Net(40, chain(40) + [(0, room) for room in range(2, 40)])
        for room in range(1, 39):
            self.assertEqual(edge(net, room), [room + 1])
        self.assertEqual(edge(net, 39), [])

    def test_hundred_doors(self):
        net = Net(40, [(start, end) for start in range(10) for end in range(10)])
        self.assertEqual(edge(net, 0), [0])
        for room in range(1, 10):
            self.assertEqual(edge(net, room), list(range(10)))
        net = Net(1, [(0, 0)] * 100)
        self.assertEqual(edge(net, 0), [0])

    def test_lesser_nets(self):
        for rooms, doors in lesser_nets():
            self.assert_edges(rooms, doors, plain_guards(doors))

    def test_greater_nets(self):
        for rooms, doors in greater_nets():
            self.assert_edges(rooms, doors, quick_guards(doors))


class TestJoins(unittest.TestCase):

    def assert_all_joins(self, rooms, doors):
        net = Net(rooms, doors)
        for some, joined in plain_joins(doors, come_to(doors)).items():
            answer = joins(net, sorted(some))
            self.assertIs(type(answer), list)
            self.assertEqual(answer, joined)
            self.assertEqual(joins(net, sorted(some, reverse=True) + [0] + sorted(some)), joined)

    def assert_joins(self, rooms, doors, some):
        joined = joins(Net(rooms, doors), some)
        self.assertEqual(joined, sorted(set(joined) - {0}))
        self.assertEqual(joined, quick_joins(doors, some))
        self.assertLessEqual(doubly_come_to(doors, some + joined), set(joined))
        if len(joined) < 6:
            self.assertTrue(is_least(doors, set(some), frozenset(joined)))

    def test_a_written_out_net(self):
        net = Net(7, FORK)
        for some, joined in (([1], [1]), ([2], [1, 4]), ([3], [1, 4]), ([4], [1]), ([5], [1]), ([2, 3], [1, 4])):
            self.assertEqual(joins(net, some), joined)

    def test_only_the_first_room_where_marks_meet(self):
        net = Net(6, [(0, 1), (0, 2), (1, 3), (2, 3), (3, 4), (4, 5)])
        for some in ([1], [2], [1, 2], [2, 1], [1, 2, 4]):
            self.assertEqual(joins(net, some), [3])
        self.assertEqual(joins(net, [3, 4, 5]), [])

    def test_joins_are_marks_too(self):
        net = Net(7, [(0, 5), (0, 1), (5, 3), (5, 4), (3, 2), (4, 2), (2, 6), (1, 6)])
        self.assertEqual(joins(net, [3]), [2, 6])
        self.assertEqual(joins(net, [1]), [6])

    def test_a_marked_room_may_be_a_join_itself(self):
        self.assertEqual(joins(Net(2, [(0, 1), (1, 1)]), [1]), [1])
        self.assertEqual(joins(Net(3, [(0, 1), (1, 2), (2, 1)]), [1]), [1])
        self.assertEqual(joins(Net(3, [(0, 1), (1, 2), (2, 1)]), [2]), [1])

    def test_a_wild_ring(self):
        net = Net(3, [(0, 1), (0, 2), (1, 2), (2, 1)])
        for some in ([1], [2], [1, 2]):
            self.assertEqual(joins(net, some), [1, 2])
        self.assertEqual(joins(net, []), [])

    def test_a_loop_without_marks_has_no_join(self):
        self.assertEqual(joins(Net(4, [(0, 1), (1, 2), (2, 1), (1, 3)]), [3]), [])

    def test_an_empty_list(self):
        for net in (Net(1, []), Net(1, [(0, 0)]), Net(7, FORK), Net(5, OUTSIDE), Net(40, chain(40))):
            self.assertEqual(joins(net, []), [])

    def test_room_0_is_marked_anyway_and_no_join(self):
        net = Net(3, [(0, 1), (0, 2), (1, 0), (2, 0), (1, 2), (0, 0)])
        self.assertEqual(joins(net, [0]), [])
        self.assertEqual(joins(net, [1]), [2])
        self.assertEqual(joins(net, [0, 1]), [2])
        self.assertEqual(joins(net, [1, 0]), [2])
        self.assertEqual(joins(net, [2]), [])

    def test_a_room_more_than_once(self):
        net = Net(7, FORK)
        self.assertEqual(joins(net, [2, 2]), [1, 4])
        self.assertEqual(joins(net, [4, 0, 4, 0, 4]), [1])
        self.assertEqual(joins(net, [2] * 60), [1, 4])
        self.assertEqual(joins(net, [2, 4] * 35), [1, 4])

    def test_rooms_that_are_not_reached(self):
        net = Net(5, OUTSIDE)
        self.assertEqual(joins(net, [1]), [1])
        self.assertEqual(joins(net, [2]), [1])
        self.assertEqual(joins(Net(4, [(0, 1), (1, 2), (3, 2), (3, 1)]), [1, 2]), [])

    def test_forty_rooms(self):
        self.assertEqual(joins(Net(40, []), [0]), [])
        self.assertEqual(joins(Net(40, chain(40)), list(range(40))), [])
        net = Net(40, chain(40) + [(0, room) for room in range(2, 40)])
        self.assertEqual(joins(net, [1]), list(range(2, 40)))
        self.assertEqual(joins(net, [30, 35]), list(range(31, 40)))

    def test_hundred_doors(self):
        net = Net(40, [(start, end) for start in range(10) for end in range(10)])
        self.assertEqual(joins(net, [4]), list(range(1, 10)))
        self.assertEqual(joins(net, [0]), [])
        self.assertEqual(joins(Net(1, [(0, 0)] * 100), [0]), [])

    def test_lesser_nets(self):
        for rooms, doors in lesser_nets():
            self.assert_all_joins(rooms, doors)

    def test_greater_nets(self):
        for rooms, doors in greater_nets():
            found = sorted(come_to(doors))
            for some in ([], found, found[::3], found[-2:], found[1:2], [found[len(found) // 2]] * 2):
                self.assert_joins(rooms, doors, some)


if __name__ == "__main__":
    unittest.main()
