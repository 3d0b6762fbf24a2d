"""Points 1, 3 and 11: ways, reached rooms, and what is refused."""

import unittest

from mustpass.errors import NoRoom, Unreached
from mustpass.nets import Net
from mustpass.ways import reached, way_past, way_to
from tests.helper import assert_refused, assert_way, chain, come_to, mixed_nets, small_nets, spoil, wrong_rooms


class TestReached(unittest.TestCase):

    def test_a_written_out_net(self):
        net = Net(7, [(0, 5), (5, 2), (2, 0), (3, 2), (3, 4), (4, 3), (6, 6)])
        self.assertEqual(reached(net), [0, 2, 5])

    def test_room_0_is_reached_without_doors(self):
        self.assertEqual(reached(Net(1, [])), [0])
        self.assertEqual(reached(Net(40, [])), [0])

    def test_doors_are_not_gone_through_backwards(self):
        self.assertEqual(reached(Net(3, [(1, 0), (2, 1)])), [0])

    def test_rising_whatever_the_order_of_doors(self):
        self.assertEqual(reached(Net(40, chain(40))), list(range(40)))
        self.assertEqual(reached(Net(12, [(0, 11), (11, 3), (3, 10), (10, 2)])), [0, 2, 3, 10, 11])

    def test_against_the_plain_answer(self):
        for nets in (small_nets(), mixed_nets()):
            for rooms, doors in nets:
                told = reached(Net(rooms, doors))
                self.assertIs(type(told), list)
                self.assertEqual(told, sorted(come_to(doors)))

    def test_what_is_told_may_be_changed(self):
        net = Net(3, [(0, 2)])
        spoil(reached(net))
        self.assertEqual(reached(net), [0, 2])
        reached(net).clear()
        self.assertEqual(reached(net), [0, 2])
        self.assertIsNot(reached(net), reached(net))


class TestWayTo(unittest.TestCase):

    def assert_ways(self, rooms, doors):
        net = Net(rooms, doors)
        found = come_to(doors)
        for room in range(rooms):
            if room in found:
                assert_way(self, doors, room, way_to(net, room))
            else:
                assert_refused(self, Unreached, way_to, net, room)

    def test_ways_where_there_is_just_one(self):
        net = Net(5, [(3, 1), (0, 4), (4, 3), (2, 1)])
        self.assertEqual(way_to(net, 0), [0])
        self.assertEqual(way_to(net, 4), [0, 4])
        self.assertEqual(way_to(net, 3), [0, 4, 3])
        self.assertEqual(way_to(net, 1), [0, 4, 3, 1])

    def test_one_room(self):
        self.assertEqual(way_to(Net(1, []), 0), [0])

    def test_a_long_way(self):
        self.assertEqual(way_to(Net(40, chain(40)), 39), list(range(40)))

    def test_all_small_nets(self):
        for rooms, doors in small_nets():
            self.assert_ways(rooms, doors)

    def test_mixed_nets(self):
        for rooms, doors in mixed_nets():
            self.assert_ways(rooms, doors)

    def test_what_is_told_may_be_changed(self):
        net = Net(3, [(0, 2), (2, 1)])
        for room, way in ((0, [0]), (1, [0, 2, 1]), (2, [0, 2])):
            spoil(way_to(net, room))
            self.assertEqual(way_to(net, room), way)
            way_to(net, room).clear()
            self.assertEqual(way_to(net, room), way)
            self.assertIsNot(way_to(net, room), way_to(net, room))


class TestWayPast(unittest.TestCase):

    def assert_ways_past(self, rooms, doors):
        net = Net(rooms, doors)
        found = come_to(doors)
        for other in range(rooms):
            past = come_to(doors, other)
            for room in range(rooms):
                if room not in found:
                    assert_refused(self, Unreached, way_past, net, room, other)
                elif room in past:
                    way = way_past(net, room, other)
                    assert_way(self, doors, room, way)
                    self.assertNotIn(other, way)
                else:
                    self.assertIsNone(way_past(net, room, other))

    def test_ways_where_there_is_just_one(self):
        net = Net(5, [(0, 1), (0, 2), (1, 3), (2, 3), (3, 4)])
        self.assertEqual(way_past(net, 3, 1), [0, 2, 3])
        self.assertEqual(way_past(net, 3, 2), [0, 1, 3])
        self.assertEqual(way_past(net, 4, 1), [0, 2, 3, 4])
        self.assertEqual(way_past(net, 0, 4), [0])
        self.assertIsNone(way_past(net, 4, 3))

    def test_a_longer_way_round(self):
        net = Net(6, [(0, 1), (1, 5), (0, 2), (2, 3), (3, 4), (4, 5)])
        self.assertEqual(way_past(net, 5, 1), [0, 2, 3, 4, 5])
        self.assertEqual(way_past(net, 5, 3), [0, 1, 5])

    def test_past_room_0(self):
        net = Net(3, [(0, 1), (1, 0), (1, 2), (2, 1)])
        for room in range(3):
            self.assertIsNone(way_past(net, room, 0))

    def test_past_the_room_itself(self):
        net = Net(3, [(0, 1), (1, 1), (1, 2), (0, 2)])
        for room in range(3):
            self.assertIsNone(way_past(net, room, room))

    def test_past_a_room_that_is_not_reached(self):
        net = Net(4, [(0, 1), (1, 2), (3, 2)])
        self.assertEqual(way_past(net, 2, 3), [0, 1, 2])
        self.assertEqual(way_past(net, 0, 3), [0])

    def test_one_room(self):
        self.assertIsNone(way_past(Net(1, [(0, 0)]), 0, 0))

    def test_a_long_chain(self):
        net = Net(40, chain(40))
        for other in range(40):
            self.assertIsNone(way_past(net, 39, other))
        self.assertEqual(way_past(net, 38, 39), list(range(39)))

    def test_all_small_nets(self):
        for rooms, doors in small_nets():
            self.assert_ways_past(rooms, doors)

    def test_mixed_nets(self):
        for rooms, doors in mixed_nets():
            self.assert_ways_past(rooms, doors)

    def test_what_is_told_may_be_changed(self):
        net = Net(4, [(0, 2), (2, 1), (0, 3), (3, 1)])
        spoil(way_past(net, 1, 3))
        self.assertEqual(way_past(net, 1, 3), [0, 2, 1])
        way_past(net, 1, 3).clear()
        self.assertEqual(way_past(net, 1, 3), [0, 2, 1])
        self.assertIsNot(way_past(net, 0, 3), way_past(net, 0, 3))


class TestAsked(unittest.TestCase):

    def test_arguments_go_by_their_names(self):
        net = Net(3, [(0, 1)])
        self.assertEqual(reached(net=net), [0, 1])
        self.assertEqual(way_to(net=net, room=1), [0, 1])
        self.assertEqual(way_past(net=net, room=1, other=2), [0, 1])

    def test_asking_does_not_change_the_net(self):
        doors = [(3, 1), (0, 4), (4, 3), (2, 1), (0, 4), (1, 1)]
        net = Net(5, doors)
        for room in (0, 1, 3, 4):
            spoil(way_to(net, room))
            way_past(net, room, 0)
            spoil(way_past(net, room, 2))
        spoil(reached(net))
        assert_refused(self, Unreached, way_to, net, 2)
        self.assertEqual((net.rooms(), net.doors()), (5, doors))
        self.assertEqual([net.leads(room) for room in range(5)], [[4], [1], [1], [1], [3]])
        self.assertEqual([net.led(room) for room in range(5)], [[], [1, 2, 3], [], [4], [0]])

    def test_the_net_does_not_hang_on_changed_lists(self):
        doors = [(0, 1), (1, 2)]
        net = Net(3, doors)
        doors.clear()
        spoil(net.leads(0))
        net.doors().clear()
        net.led(2).clear()
        self.assertEqual(reached(net), [0, 1, 2])
        self.assertEqual(way_to(net, 2), [0, 1, 2])
        self.assertIsNone(way_past(net, 2, 1))

    def test_nets_do_not_mix(self):
        first = Net(3, [(0, 1), (1, 2)])
        second = Net(3, [(0, 2)])
        self.assertEqual((reached(first), reached(second), reached(first)), ([0, 1, 2], [0, 2], [0, 1, 2]))
        self.assertEqual((way_to(first, 2), way_to(second, 2)), ([0, 1, 2], [0, 2]))


class TestRefusals(unittest.TestCase):

    def nets(self):
        return [Net(1, []), Net(4, [(0, 1), (2, 0), (2, 3)]), Net(40, chain(30))]

    def test_way_to_a_room_that_the_net_does_not_have(self):
        for net in self.nets():
            for wrong in wrong_rooms(net):
                assert_refused(self, NoRoom, way_to, net, wrong)

    def test_way_past_with_a_room_that_the_net_does_not_have(self):
        for net in self.nets():
            for wrong in wrong_rooms(net):
                for right in range(net.rooms()):
                    assert_refused(self, NoRoom, way_past, net, wrong, right)
                    # Rooms that are not reached are among these: NoRoom goes ahead of Unreached.
                    assert_refused(self, NoRoom, way_past, net, right, wrong)
                assert_refused(self, NoRoom, way_past, net, wrong, wrong)

    def test_a_room_that_is_not_reached(self):
        net = Net(4, [(0, 1), (2, 0), (2, 3)])
        for room in (2, 3):
            assert_refused(self, Unreached, way_to, net, room)
            for other in range(4):
                assert_refused(self, Unreached, way_past, net, room, other)

    def test_the_other_room_need_not_be_reached(self):
        net = Net(4, [(0, 1), (2, 0), (2, 3)])
        for other in (2, 3):
            self.assertEqual(way_past(net, 0, other), [0])
            self.assertEqual(way_past(net, 1, other), [0, 1])


if __name__ == "__main__":
    unittest.main()
