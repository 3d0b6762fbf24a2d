"""Point 11, over the whole program: what is refused with NoRoom and with Unreached, and which goes first."""

import unittest

from mustpass.errors import NoRoom, Unreached
from mustpass.guards import bars_of, common, guards, guards_of, nearest
from mustpass.loops import back_doors, loops, wild_ring
from mustpass.marks import edge, joins
from mustpass.nets import Net
from mustpass.ways import way_past, way_to
from tests.helper import FORK, OUTSIDE, assert_refused, chain, come_to, wrong_rooms

OF_A_ROOM = (way_to, guards_of, nearest, bars_of, edge)
OF_A_LIST = (common, joins)
NETS = ((1, []), (1, [(0, 0)]), (7, FORK), (5, OUTSIDE), (4, [(0, 1), (2, 0), (2, 3)]), (40, chain(30)), (40, []))


def nets_and_rooms():
    """Each net with its reached rooms and with its others."""
    for rooms, doors in NETS:
        found = come_to(doors)
        yield Net(rooms, doors), sorted(found), [room for room in range(rooms) if room not in found]


class TestOneRoom(unittest.TestCase):

    def test_a_room_that_the_net_does_not_have(self):
        for net, inside, apart in nets_and_rooms():
            for wrong in wrong_rooms(net):
                for call in OF_A_ROOM:
                    assert_refused(self, NoRoom, call, net, wrong)

    def test_a_room_that_is_not_reached(self):
        for net, inside, apart in nets_and_rooms():
            for room in apart:
                for call in OF_A_ROOM:
                    assert_refused(self, Unreached, call, net, room)

    def test_all_reached_rooms_are_taken(self):
        for net, inside, apart in nets_and_rooms():
            for room in inside:
                for call in OF_A_ROOM:
                    call(net, room)


class TestTwoRooms(unittest.TestCase):

    def test_a_room_that_the_net_does_not_have(self):
        for net, inside, apart in nets_and_rooms():
            for wrong in wrong_rooms(net):
                for call in (guards, way_past):
                    assert_refused(self, NoRoom, call, net, wrong, wrong)
                    # Rooms that are not reached are among these: NoRoom goes ahead of Unreached.
                    for room in range(net.rooms()):
                        assert_refused(self, NoRoom, call, net, wrong, room)
                        assert_refused(self, NoRoom, call, net, room, wrong)

    def test_the_room_to_be_guarded_is_not_reached(self):
        for net, inside, apart in nets_and_rooms():
            for other in apart:
                for room in range(net.rooms()):
                    assert_refused(self, Unreached, guards, net, room, other)

    def test_the_guard_need_not_be_reached(self):
        for net, inside, apart in nets_and_rooms():
            for room in apart:
                for other in inside:
                    self.assertIs(guards(net, room, other), False)


class TestLists(unittest.TestCase):

    def assert_refused_list(self, error, net, some):
        for call in OF_A_LIST:
            handed = list(some)
            assert_refused(self, error, call, net, handed)
            self.assertEqual(handed, some)

    def test_a_room_that_the_net_does_not_have(self):
        for net, inside, apart in nets_and_rooms():
            for wrong in wrong_rooms(net):
                self.assert_refused_list(NoRoom, net, [wrong])
                self.assert_refused_list(NoRoom, net, [wrong, wrong])
                for room in inside:
                    self.assert_refused_list(NoRoom, net, [wrong, room])
                    self.assert_refused_list(NoRoom, net, [room, wrong])
                self.assert_refused_list(NoRoom, net, inside + [wrong])

    def test_a_room_that_is_not_reached(self):
        for net, inside, apart in nets_and_rooms():
            for room in apart:
                self.assert_refused_list(Unreached, net, [room])
                self.assert_refused_list(Unreached, net, [room, room])
                self.assert_refused_list(Unreached, net, [room, 0])
                self.assert_refused_list(Unreached, net, [0, room])
                self.assert_refused_list(Unreached, net, inside + [room])
                self.assert_refused_list(Unreached, net, [room] + inside)

    def test_no_room_for_any_goes_ahead_of_unreached_for_any(self):
        for net, inside, apart in nets_and_rooms():
            for wrong in wrong_rooms(net):
                for room in apart[:3]:
                    self.assert_refused_list(NoRoom, net, [room, wrong])
                    self.assert_refused_list(NoRoom, net, [wrong, room])
                    self.assert_refused_list(NoRoom, net, [0, room, room, 0, wrong])
                    self.assert_refused_list(NoRoom, net, [room] + inside + [wrong, room])
                self.assert_refused_list(NoRoom, net, apart + [wrong])
                self.assert_refused_list(NoRoom, net, [wrong] + apart)

    def test_at_any_place_of_sixty(self):
        net = Net(4, [(0, 1), (2, 0), (2, 3)])
        for place in range(60):
            some = [0, 1] * 30
            some[place] = 3
            self.assert_refused_list(Unreached, net, some)
            some[59 - place] = 4
            self.assert_refused_list(NoRoom, net, some)

    def test_reached_rooms_are_taken_however_many(self):
        for net, inside, apart in nets_and_rooms():
            for call in OF_A_LIST:
                call(net, inside)
                call(net, inside * 2)
                call(net, [0] * 70)


class TestNoRefusal(unittest.TestCase):

    def test_the_whole_net_is_asked(self):
        for net, inside, apart in nets_and_rooms():
            for call in (back_doors, loops, wild_ring):
                call(net)

    def test_after_refusals_the_answers_are_as_before(self):
        net = Net(7, FORK)
        for call in OF_A_ROOM:
            before = call(net, 5)
            assert_refused(self, NoRoom, call, net, 7)
            assert_refused(self, Unreached, call, net, 6)
            self.assertEqual(call(net, 5), before)
        for call in OF_A_LIST:
            before = call(net, [2, 5])
            assert_refused(self, NoRoom, call, net, [2, 6, -1])
            assert_refused(self, Unreached, call, net, [2, 6])
            self.assertEqual(call(net, [2, 5]), before)
        self.assertEqual(net.doors(), FORK)


if __name__ == "__main__":
    unittest.main()
