"""Points 4, 5 and 6: guards, nearest guards, bars and common guards."""

import unittest
from itertools import permutations

from mustpass.guards import bars_of, common, guards, guards_of, nearest
from mustpass.nets import Net
from tests.helper import (
    FORK, OUTSIDE, chain, greater_nets, lesser_nets, plain_bars, plain_guards, quick_bars, quick_guards)


def plain_common(told, some):
    return [room for room in told[some[0]] if all(room in told[other] for other in some)][-1]


def rows_of(found):
    """Lists of these rooms: alone, twice, in pairs and in threes, in all their orders while they are few."""
    found = sorted(found)
    if len(found) > 7:
        return [found, found[::-1], found[1:], found[:0:-3]] + [[room, found[room % 5]] for room in found]
    rows = [[room] for room in found] + [[room, room] for room in found] + [found + found]
    return rows + [list(row) for many in (2, 3) for row in permutations(found, many)]


class TestGuards(unittest.TestCase):

    def assert_guards(self, rooms, doors, told):
        net = Net(rooms, doors)
        for other, row in told.items():
            self.assertEqual([room for room in range(rooms) if guards(net, room, other)], sorted(row))

    def test_a_written_out_net(self):
        net = Net(7, FORK)
        self.assertIs(guards(net, 1, 5), True)
        self.assertIs(guards(net, 4, 5), True)
        self.assertIs(guards(net, 2, 4), False)
        self.assertIs(guards(net, 3, 4), False)
        self.assertIs(guards(net, 5, 1), False)
        self.assertIs(guards(net, 5, 4), False)

    def test_each_reached_room_guards_itself_and_room_0_guards_all(self):
        net = Net(7, FORK)
        for room in range(6):
            self.assertIs(guards(net, room, room), True)
            self.assertIs(guards(net, 0, room), True)
            self.assertIs(guards(net, room, 0), room == 0)

    def test_a_first_room_that_is_not_reached_guards_nothing(self):
        for net, apart in ((Net(7, FORK), (6,)), (Net(5, OUTSIDE), (3, 4)), (Net(40, []), range(1, 40))):
            for room in apart:
                for other in (0, 1, 2):
                    if other == 0 or other not in apart:
                        self.assertIs(guards(net, room, other), False)

    def test_one_room(self):
        for doors in ([], [(0, 0)], [(0, 0)] * 100):
            self.assertIs(guards(Net(1, doors), 0, 0), True)

    def test_lesser_nets(self):
        for rooms, doors in lesser_nets():
            self.assert_guards(rooms, doors, plain_guards(doors))

    def test_greater_nets(self):
        for rooms, doors in greater_nets():
            self.assert_guards(rooms, doors, quick_guards(doors))


class TestGuardsOf(unittest.TestCase):

    def assert_guards_of(self, rooms, doors, told):
        net = Net(rooms, doors)
        for room, row in told.items():
            answer = guards_of(net, room)
            self.assertIs(type(answer), list)
            self.assertEqual(answer, row)
            self.assertEqual(nearest(net, room), None if room == 0 else row[-2])

    def test_a_written_out_net(self):
        net = Net(7, FORK)
        self.assertEqual([guards_of(net, room) for room in range(6)],
                         [[0], [0, 1], [0, 1, 2], [0, 1, 3], [0, 1, 4], [0, 1, 4, 5]])
        self.assertEqual([nearest(net, room) for room in range(6)], [None, 0, 1, 1, 1, 4])

    def test_the_order_is_that_of_the_ways_and_not_of_the_numbers(self):
        net = Net(6, [(0, 5), (5, 1), (5, 2), (1, 4), (2, 4), (4, 3), (3, 5), (0, 5)])
        self.assertEqual(guards_of(net, 3), [0, 5, 4, 3])
        self.assertEqual(nearest(net, 3), 4)
        self.assertEqual(nearest(net, 4), 5)

    def test_doors_from_rooms_that_are_not_reached_make_no_way(self):
        net = Net(5, OUTSIDE)
        self.assertEqual(guards_of(net, 2), [0, 1, 2])
        self.assertEqual((nearest(net, 2), nearest(net, 1)), (1, 0))

    def test_room_0(self):
        for net in (Net(1, []), Net(1, [(0, 0)]), Net(40, []), Net(3, [(0, 1), (1, 0), (0, 0), (2, 0)])):
            self.assertEqual(guards_of(net, 0), [0])
            self.assertIsNone(nearest(net, 0))

    def test_a_long_chain(self):
        net = Net(40, chain(40))
        for room in range(40):
            self.assertEqual(guards_of(net, room), list(range(room + 1)))
            self.assertEqual(nearest(net, room), room - 1 if room else None)

    def test_hundred_doors(self):
        net = Net(40, [(start, end) for start in range(10) for end in range(10)])
        for room in range(1, 10):
            self.assertEqual(guards_of(net, room), [0, room])
            self.assertEqual(nearest(net, room), 0)

    def test_lesser_nets(self):
        for rooms, doors in lesser_nets():
            self.assert_guards_of(rooms, doors, plain_guards(doors))

    def test_greater_nets(self):
        for rooms, doors in greater_nets():
            self.assert_guards_of(rooms, doors, quick_guards(doors))


class TestBars(unittest.TestCase):

    def assert_bars(self, rooms, doors, told):
        net = Net(rooms, doors)
        for room, row in told.items():
            answer = bars_of(net, room)
            self.assertIs(type(answer), list)
            self.assertEqual(answer, row)

    def test_a_written_out_net(self):
        net = Net(7, FORK)
        self.assertEqual([bars_of(net, room) for room in range(6)], [[], [0], [0, 1], [0, 2], [0], [0, 5]])

    def test_the_order_is_that_of_the_ways_and_not_of_the_numbers(self):
        net = Net(6, [(3, 1), (5, 2), (4, 3), (0, 4), (1, 4), (2, 4)])
        self.assertEqual(bars_of(net, 1), [3, 2, 0])
        self.assertEqual(bars_of(Net(40, chain(40)), 39), list(range(38, -1, -1)))

    def test_of_several_doors_alike_none_bars(self):
        net = Net(4, [(0, 1), (1, 2), (1, 2), (2, 3)])
        self.assertEqual(bars_of(net, 2), [0])
        self.assertEqual(bars_of(net, 3), [0, 3])
        self.assertEqual(bars_of(Net(2, [(0, 1)] * 2), 1), [])
        self.assertEqual(bars_of(Net(2, [(0, 1)] * 100), 1), [])
        self.assertEqual(bars_of(Net(2, [(0, 0)] * 99 + [(0, 1)]), 1), [99])

    def test_doors_alike_on_another_way_do_not_unbar(self):
        net = Net(3, [(0, 1), (1, 2), (2, 1), (2, 1)])
        self.assertEqual(bars_of(net, 1), [0])
        self.assertEqual(bars_of(net, 2), [0, 1])

    def test_a_door_into_its_own_room_bars_nothing(self):
        net = Net(2, [(0, 0), (1, 1), (0, 1)])
        self.assertEqual(bars_of(net, 0), [])
        self.assertEqual(bars_of(net, 1), [2])

    def test_doors_from_rooms_that_are_not_reached_do_not_unbar(self):
        net = Net(5, OUTSIDE)
        self.assertEqual(bars_of(net, 1), [1])
        self.assertEqual(bars_of(net, 2), [1, 2])

    def test_room_0_has_none(self):
        for net in (Net(1, []), Net(1, [(0, 0)]), Net(40, []), Net(2, [(0, 1), (1, 0)]), Net(5, OUTSIDE)):
            self.assertEqual(bars_of(net, 0), [])

    def test_a_guard_behind_two_doors(self):
        net = Net(4, [(0, 1), (0, 2), (1, 3), (2, 3)])
        self.assertEqual(bars_of(net, 3), [])

    def test_hundred_doors(self):
        net = Net(40, [(start, end) for start in range(10) for end in range(10)])
        for room in range(10):
            self.assertEqual(bars_of(net, room), [])

    def test_lesser_nets(self):
        for rooms, doors in lesser_nets():
            self.assert_bars(rooms, doors, plain_bars(doors))
            self.assert_bars(rooms, doors[::-1], plain_bars(doors[::-1]))

    def test_greater_nets(self):
        for rooms, doors in greater_nets():
            self.assert_bars(rooms, doors, quick_bars(doors, quick_guards(doors)))


class TestCommon(unittest.TestCase):

    def assert_common(self, rooms, doors, told):
        net = Net(rooms, doors)
        for some in rows_of(told):
            self.assertEqual(common(net, some), plain_common(told, some))

    def test_a_written_out_net(self):
        net = Net(7, FORK)
        for some in ([2, 3], [2, 5], [5, 2], [1, 5], [5, 3, 2]):
            self.assertEqual(common(net, some), 1)
        for some in ([4, 5], [5, 4]):
            self.assertEqual(common(net, some), 4)

    def test_one_room_alone(self):
        net = Net(7, FORK)
        for room in range(6):
            self.assertEqual(common(net, [room]), room)
        self.assertEqual(common(Net(1, []), [0]), 0)

    def test_with_room_0(self):
        net = Net(7, FORK)
        for some in ([0, 5], [5, 0], [0, 0], [4, 0, 5]):
            self.assertEqual(common(net, some), 0)

    def test_a_room_twice(self):
        net = Net(7, FORK)
        self.assertEqual(common(net, [2, 2]), 2)
        self.assertEqual(common(net, [5, 4, 5]), 4)
        self.assertEqual(common(net, [5] * 60), 5)

    def test_the_last_guard_by_the_ways_and_not_by_the_numbers(self):
        net = Net(6, [(0, 5), (5, 3), (3, 1), (3, 2), (2, 4)])
        self.assertEqual(common(net, [1, 4]), 3)
        self.assertEqual(common(net, [4, 2]), 2)

    def test_sixty_rooms_and_more(self):
        net = Net(40, chain(40))
        self.assertEqual(common(net, list(range(39, 9, -1)) * 2), 10)
        self.assertEqual(common(net, [39] * 70 + [12]), 12)

    def test_lesser_nets(self):
        for rooms, doors in lesser_nets():
            self.assert_common(rooms, doors, plain_guards(doors))

    def test_greater_nets(self):
        for rooms, doors in greater_nets():
            self.assert_common(rooms, doors, quick_guards(doors))


if __name__ == "__main__":
    unittest.main()
