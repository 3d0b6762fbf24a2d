"""Points 7 and 8: back doors, loops, and wild rings."""

import unittest

from mustpass.loops import back_doors, loops, wild_ring
from mustpass.nets import Net
from tests.helper import (
    assert_wild_ring, chain, greater_nets, is_tame, lesser_nets, plain_back_doors, plain_guards, plain_loops,
    quick_guards, shrinks_to_one, tame_nets)


class TestBackDoors(unittest.TestCase):

    def test_a_written_out_net(self):
        net = Net(6, [(3, 1), (0, 1), (1, 2), (2, 3), (3, 2), (0, 4), (4, 3), (5, 0), (4, 0)])
        self.assertEqual(back_doors(net), [8])
        net = Net(4, [(3, 1), (0, 1), (1, 2), (2, 3), (3, 2)])
        self.assertEqual(back_doors(net), [0, 4])

    def test_a_door_into_its_own_room(self):
        self.assertEqual(back_doors(Net(1, [(0, 0)])), [0])
        self.assertEqual(back_doors(Net(2, [(1, 1), (0, 1)])), [0])

    def test_several_doors_alike(self):
        self.assertEqual(back_doors(Net(2, [(1, 0), (0, 1), (1, 0), (0, 1), (1, 0)])), [0, 2, 4])
        self.assertEqual(back_doors(Net(1, [(0, 0)] * 100)), list(range(100)))

    def test_both_rooms_must_be_reached(self):
        self.assertEqual(back_doors(Net(4, [(2, 2), (2, 3), (3, 2), (2, 0), (3, 1), (0, 1)])), [])

    def test_a_wild_ring_alone_has_none(self):
        self.assertEqual(back_doors(Net(3, [(0, 1), (0, 2), (1, 2), (2, 1)])), [])

    def test_no_doors(self):
        self.assertEqual(back_doors(Net(1, [])), [])
        self.assertEqual(back_doors(Net(40, [])), [])

    def test_hundred_doors(self):
        net = Net(40, [(start, end) for start in range(10) for end in range(10)])
        self.assertEqual(back_doors(net), sorted({10 * room for room in range(10)} | {11 * room for room in range(10)}))


class TestLoops(unittest.TestCase):

    def assert_loops(self, rooms, doors, told):
        net = Net(rooms, doors)
        self.assertEqual(back_doors(net), plain_back_doors(doors, told))
        answer = loops(net)
        self.assertEqual(answer, plain_loops(doors, told))
        self.assertIs(type(answer), list)
        for loop in answer:
            self.assertIs(type(loop), tuple)
            self.assertIs(type(loop[1]), list)

    def test_a_written_out_net(self):
        net = Net(8, [(0, 7), (7, 2), (2, 5), (5, 2), (5, 3), (3, 7), (2, 6), (6, 4), (4, 1)])
        self.assertEqual(loops(net), [(2, [2, 5]), (7, [2, 3, 5, 7])])

    def test_two_back_doors_into_one_head_are_one_loop(self):
        net = Net(5, [(0, 4), (4, 1), (4, 2), (1, 4), (2, 3), (3, 4)])
        self.assertEqual(loops(net), [(4, [1, 2, 3, 4])])

    def test_nothing_beyond_the_head(self):
        net = Net(4, [(0, 1), (1, 2), (2, 3), (3, 2), (2, 0)])
        self.assertEqual(loops(net), [(0, [0, 1, 2, 3]), (2, [2, 3])])

    def test_a_door_into_its_own_room(self):
        self.assertEqual(loops(Net(1, [(0, 0)])), [(0, [0])])
        self.assertEqual(loops(Net(3, [(0, 1), (1, 1), (1, 2)])), [(1, [1])])
        self.assertEqual(loops(Net(3, [(0, 1), (1, 1), (1, 2), (2, 1)])), [(1, [1, 2])])
        self.assertEqual(loops(Net(3, [(0, 1), (1, 2), (2, 2), (2, 1)])), [(1, [1, 2]), (2, [2])])

    def test_rooms_that_are_not_reached_are_in_no_loop(self):
        net = Net(6, [(3, 1), (0, 1), (1, 2), (4, 3), (3, 4), (2, 1), (4, 4), (4, 2), (5, 0)])
        self.assertEqual(loops(net), [(1, [1, 2])])

    def test_a_wild_ring_within_a_loop(self):
        net = Net(4, [(0, 1), (0, 2), (1, 2), (2, 1), (2, 3), (3, 0)])
        self.assertEqual(loops(net), [(0, [0, 1, 2, 3])])

    def test_several_doors_alike(self):
        self.assertEqual(loops(Net(2, [(1, 0), (0, 1), (1, 0), (0, 1), (1, 0)])), [(0, [0, 1])])

    def test_no_doors(self):
        self.assertEqual(loops(Net(1, [])), [])
        self.assertEqual(loops(Net(40, [])), [])

    def test_forty_rooms(self):
        self.assertEqual(loops(Net(40, chain(40))), [])
        net = Net(40, chain(40) + [(room, 39 - room) for room in range(20, 40)])
        self.assertEqual(loops(net), [(head, list(range(head, 40 - head))) for head in range(20)])

    def test_hundred_doors(self):
        net = Net(40, [(start, end) for start in range(10) for end in range(10)])
        self.assertEqual(loops(net), [(0, list(range(10)))] + [(room, [room]) for room in range(1, 10)])

    def test_lesser_nets(self):
        for rooms, doors in lesser_nets():
            self.assert_loops(rooms, doors, plain_guards(doors))

    def test_greater_nets(self):
        for rooms, doors in greater_nets():
            self.assert_loops(rooms, doors, quick_guards(doors))


class TestWildRing(unittest.TestCase):

    def assert_ring(self, rooms, doors, told, tame):
        ring = wild_ring(Net(rooms, doors))
        if tame:
            self.assertIsNone(ring)
        else:
            assert_wild_ring(self, doors, told, ring)

    def test_a_written_out_net(self):
        self.assertIn(wild_ring(Net(3, [(0, 1), (0, 2), (1, 2), (2, 1)])), ([1, 2], [2, 1]))
        net = Net(6, [(0, 1), (1, 4), (0, 3), (4, 3), (3, 5), (5, 4), (5, 2), (2, 2), (2, 0)])
        self.assertIn(wild_ring(net), ([4, 3, 5], [3, 5, 4], [5, 4, 3]))

    def test_a_ring_with_a_guard_is_not_wild(self):
        self.assertIsNone(wild_ring(Net(3, [(0, 1), (1, 2), (2, 1)])))
        self.assertIsNone(wild_ring(Net(2, [(0, 1), (1, 0)])))

    def test_a_ring_of_one_room_is_not_wild(self):
        self.assertIsNone(wild_ring(Net(1, [(0, 0)])))
        self.assertIsNone(wild_ring(Net(3, [(0, 1), (1, 1), (0, 2), (2, 2)])))

    def test_a_ring_of_rooms_that_are_not_reached_does_not_count(self):
        self.assertIsNone(wild_ring(Net(4, [(1, 2), (2, 1), (3, 1), (3, 2), (1, 0)])))

    def test_a_door_from_a_room_that_is_not_reached_makes_no_ring_wild(self):
        doors = [(0, 1), (1, 2), (2, 1), (3, 2)]
        self.assertIsNone(wild_ring(Net(4, doors)))
        self.assertIn(wild_ring(Net(4, doors + [(0, 3)])), ([1, 2], [2, 1]))

    def test_a_wild_ring_within_a_loop(self):
        self.assertIn(wild_ring(Net(4, [(0, 1), (0, 2), (1, 2), (2, 1), (2, 3), (3, 0)])), ([1, 2], [2, 1]))

    def test_a_wild_ring_past_which_one_can_go(self):
        doors = [(0, 1), (1, 5), (0, 2), (2, 3), (3, 4), (4, 3), (2, 4), (5, 5), (4, 1), (1, 0)]
        self.assertIn(wild_ring(Net(6, doors)), ([3, 4], [4, 3]))

    def test_a_wild_ring_with_loops_hung_on_it(self):
        doors = [(0, 1), (0, 3), (1, 2), (2, 1), (2, 3), (3, 4), (4, 3), (4, 1)]
        assert_wild_ring(self, doors, plain_guards(doors), wild_ring(Net(5, doors)))

    def test_several_doors_alike(self):
        self.assertIn(wild_ring(Net(3, [(0, 1), (1, 2), (2, 1), (0, 2)] * 25)), ([1, 2], [2, 1]))
        self.assertIsNone(wild_ring(Net(3, [(0, 1), (1, 2), (2, 1), (2, 0)] * 25)))

    def test_no_doors(self):
        self.assertIsNone(wild_ring(Net(1, [])))
        self.assertIsNone(wild_ring(Net(40, [])))

    def test_a_ring_of_39_rooms(self):
        doors = chain(40) + [(39, 1)]
        self.assertIsNone(wild_ring(Net(40, doors)))
        doors.append((0, 20))
        assert_wild_ring(self, doors, quick_guards(doors), wild_ring(Net(40, doors)))
        self.assertEqual(sorted(wild_ring(Net(40, doors))), list(range(1, 40)))

    def test_hundred_doors(self):
        doors = [(start, end) for start in range(10) for end in range(10)]
        assert_wild_ring(self, doors, quick_guards(doors), wild_ring(Net(40, doors)))

    def test_lesser_nets(self):
        for rooms, doors in lesser_nets():
            told = plain_guards(doors)
            self.assert_ring(rooms, doors, told, is_tame(doors, told))

    def test_greater_nets(self):
        for rooms, doors in greater_nets():
            self.assert_ring(rooms, doors, quick_guards(doors), shrinks_to_one(doors))

    def test_tame_nets_with_one_door_more(self):
        for rooms, doors in tame_nets():
            more = doors + [(rooms - 1, rooms // 2), (0, rooms // 3)]
            self.assert_ring(rooms, more, quick_guards(more), shrinks_to_one(more))


if __name__ == "__main__":
    unittest.main()
