"""Points 1, 2 and 11: what a net is, what is refused, and whose the lists are."""

import unittest

from mustpass.errors import NoNet, NoRoom
from mustpass.nets import Net
from tests.helper import BIG, assert_refused, chain, mixed_nets, small_nets, spoil


class TestOrdinaryNets(unittest.TestCase):

    def assert_net(self, rooms, doors):
        net = Net(rooms, list(doors))
        self.assertEqual(net.rooms(), rooms)
        self.assertEqual(net.doors(), doors)
        for room in range(rooms):
            self.assertEqual(net.leads(room), sorted({end for start, end in doors if start == room}))
            self.assertEqual(net.led(room), sorted({start for start, end in doors if end == room}))

    def test_a_written_out_net(self):
        net = Net(5, [(3, 1), (0, 4), (0, 2), (2, 2), (0, 4), (4, 0), (1, 2)])
        self.assertEqual(net.rooms(), 5)
        self.assertEqual(net.doors(), [(3, 1), (0, 4), (0, 2), (2, 2), (0, 4), (4, 0), (1, 2)])
        self.assertEqual([net.leads(room) for room in range(5)], [[2, 4], [2], [2], [1], [0]])
        self.assertEqual([net.led(room) for room in range(5)], [[4], [3], [0, 1, 2], [], [0]])

    def test_all_small_nets(self):
        for rooms, doors in small_nets():
            self.assert_net(rooms, doors)
            self.assert_net(rooms, doors[::-1])

    def test_mixed_nets(self):
        for rooms, doors in mixed_nets():
            self.assert_net(rooms, doors)

    def test_a_door_into_its_own_room(self):
        net = Net(2, [(0, 0), (1, 1)])
        self.assertEqual(net.doors(), [(0, 0), (1, 1)])
        for room in (0, 1):
            self.assertEqual(net.leads(room), [room])
            self.assertEqual(net.led(room), [room])

    def test_several_doors_alike(self):
        net = Net(3, [(1, 2), (1, 0), (1, 2), (1, 2), (0, 2)])
        self.assertEqual(net.doors(), [(1, 2), (1, 0), (1, 2), (1, 2), (0, 2)])
        self.assertEqual(net.leads(1), [0, 2])
        self.assertEqual(net.led(2), [0, 1])

    def test_doors_lead_one_way_alone(self):
        net = Net(2, [(0, 1)])
        self.assertEqual([net.leads(0), net.leads(1)], [[1], []])
        self.assertEqual([net.led(0), net.led(1)], [[], [0]])

    def test_rooms_that_are_not_reached_are_told_too(self):
        net = Net(4, [(2, 3), (3, 0)])
        self.assertEqual(net.leads(2), [3])
        self.assertEqual(net.led(3), [2])
        self.assertEqual(net.leads(1), [])

    def test_rising_goes_by_number(self):
        net = Net(40, [(0, room) for room in (30, 4, 20, 3, 39, 10)] + [(room, 1) for room in (30, 4, 20, 3, 39, 10)])
        self.assertEqual(net.leads(0), [3, 4, 10, 20, 30, 39])
        self.assertEqual(net.led(1), [3, 4, 10, 20, 30, 39])

    def test_the_kinds_of_what_is_told(self):
        net = Net(2, [(0, 1)])
        self.assertIs(type(net.rooms()), int)
        for told in (net.doors(), net.leads(0), net.led(1)):
            self.assertIs(type(told), list)
        self.assertIs(type(net.doors()[0]), tuple)

    def test_arguments_go_by_their_names(self):
        net = Net(rooms=2, doors=[(0, 1)])
        self.assertEqual(net.leads(room=0), [1])
        self.assertEqual(net.led(room=1), [0])


class TestEdges(unittest.TestCase):

    def test_one_room(self):
        net = Net(1, [])
        self.assertEqual((net.rooms(), net.doors(), net.leads(0), net.led(0)), (1, [], [], []))

    def test_every_number_of_rooms(self):
        for rooms in range(1, 41):
            net = Net(rooms, [(rooms - 1, 0), (0, rooms - 1)])
            self.assertEqual(net.rooms(), rooms)
            self.assertIn(0, net.leads(rooms - 1))
            self.assertIn(0, net.led(rooms - 1))

    def test_forty_rooms_without_doors(self):
        net = Net(40, [])
        self.assertEqual(net.doors(), [])
        for room in range(40):
            self.assertEqual((net.leads(room), net.led(room)), ([], []))

    def test_every_number_of_doors(self):
        for many in range(101):
            self.assertEqual(Net(1, [(0, 0)] * many).doors(), [(0, 0)] * many)

    def test_hundred_unlike_doors(self):
        doors = [(start, end) for start in range(10) for end in range(10)]
        net = Net(40, doors)
        self.assertEqual(net.doors(), doors)
        self.assertEqual(net.leads(9), list(range(10)))
        self.assertEqual(net.led(9), list(range(10)))


class TestWhoseTheListsAre(unittest.TestCase):

    def assert_told(self, net):
        self.assertEqual(net.rooms(), 3)
        self.assertEqual(net.doors(), [(2, 1), (0, 2), (0, 1)])
        self.assertEqual([net.leads(room) for room in range(3)], [[1, 2], [], [1]])
        self.assertEqual([net.led(room) for room in range(3)], [[], [0, 2], [0]])

    def test_what_is_handed_in_is_not_changed(self):
        doors = [(2, 1), (0, 2), (0, 1)]
        self.assert_told(Net(3, doors))
        self.assertEqual(doors, [(2, 1), (0, 2), (0, 1)])

    def test_what_is_refused_is_not_changed(self):
        doors = [(2, 1), (0, 2), (0, 3), (0, 1)]
        assert_refused(self, NoNet, Net, 3, doors)
        self.assertEqual(doors, [(2, 1), (0, 2), (0, 3), (0, 1)])

    def test_what_is_handed_in_may_be_changed_later(self):
        doors = [(2, 1), (0, 2), (0, 1)]
        net = Net(3, doors)
        doors.append((1, 0))
        self.assert_told(net)
        doors[0] = (1, 1)
        self.assert_told(net)
        doors.clear()
        self.assert_told(net)

    def test_two_nets_of_one_list(self):
        doors = [(2, 1), (0, 2), (0, 1)]
        first = Net(3, doors)
        doors.append((1, 1))
        second = Net(3, doors)
        self.assert_told(first)
        self.assertEqual(second.leads(1), [1])
        spoil(second.doors())
        spoil(second.leads(0))
        self.assert_told(first)
        self.assertEqual(second.doors(), [(2, 1), (0, 2), (0, 1), (1, 1)])

    def test_what_is_told_may_be_changed(self):
        net = Net(3, [(2, 1), (0, 2), (0, 1)])
        spoil(net.doors())
        self.assert_told(net)
        net.doors().clear()
        self.assert_told(net)
        for room in range(3):
            for told in (net.leads(room), net.led(room)):
                told.append(77)
                told.insert(0, 78)
                told.reverse()
                self.assert_told(net)
                told.clear()
                self.assert_told(net)

    def test_no_two_told_lists_are_one(self):
        net = Net(4, [(0, 1), (1, 0), (1, 1), (0, 0)])
        told = []
        for _ in range(2):
            told.append(net.doors())
            told.extend(net.leads(room) for room in range(4))
            told.extend(net.led(room) for room in range(4))
        self.assertEqual(len({id(one) for one in told}), len(told))
        self.assertEqual(Net(1, []).doors(), [])


class TestRefusals(unittest.TestCase):

    def test_too_few_rooms(self):
        for rooms in (0, -1, -2, -40, -41, -BIG):
            assert_refused(self, NoNet, Net, rooms, [])
            assert_refused(self, NoNet, Net, rooms, [(0, 0)])

    def test_too_many_rooms(self):
        for rooms in (41, 42, 60, 100, 1000, BIG):
            assert_refused(self, NoNet, Net, rooms, [])
            assert_refused(self, NoNet, Net, rooms, [(0, 40)])

    def test_too_many_doors(self):
        for many in (101, 102, 120, 200):
            assert_refused(self, NoNet, Net, 1, [(0, 0)] * many)
        unlike = [(start, end) for start in range(40) for end in (0, 1, 2)]
        Net(40, unlike[:100])
        assert_refused(self, NoNet, Net, 40, unlike[:101])

    def test_an_end_of_a_door_that_is_no_room(self):
        for rooms in (1, 2, 3, 39, 40):
            for wrong in (-1, -2, -rooms, -rooms - 1, rooms, rooms + 1, 2 * rooms, BIG, -BIG):
                for right in (0, rooms - 1):
                    assert_refused(self, NoNet, Net, rooms, [(wrong, right)])
                    assert_refused(self, NoNet, Net, rooms, [(right, wrong)])
                assert_refused(self, NoNet, Net, rooms, [(wrong, wrong)])

    def test_at_any_place_of_the_list(self):
        for many in (1, 2, 3, 100):
            for place in range(many):
                for wrong in ((-1, 0), (0, -1), (4, 0), (0, 4)):
                    doors = [(0, 3)] * many
                    doors[place] = wrong
                    assert_refused(self, NoNet, Net, 4, doors)

    def test_a_hundred_and_first_door_that_is_wrong_too(self):
        assert_refused(self, NoNet, Net, 1, [(0, 0)] * 100 + [(0, 1)])

    def test_a_room_that_the_net_does_not_have(self):
        for rooms, doors in ((1, []), (1, [(0, 0)]), (5, chain(5)), (40, chain(40))):
            net = Net(rooms, doors)
            for wrong in (-1, -2, -rooms, -rooms - 1, rooms, rooms + 1, 41, 100, BIG, -BIG):
                assert_refused(self, NoRoom, net.leads, wrong)
                assert_refused(self, NoRoom, net.led, wrong)

    def test_after_a_refusal_the_net_is_as_it_was(self):
        net = Net(2, [(0, 1)])
        assert_refused(self, NoRoom, net.leads, 2)
        assert_refused(self, NoRoom, net.led, -1)
        self.assertEqual((net.rooms(), net.doors(), net.leads(0), net.led(1)), (2, [(0, 1)], [1], [0]))


if __name__ == "__main__":
    unittest.main()
