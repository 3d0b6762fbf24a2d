"""Point 1, over the whole program: what is handed in is not changed or kept, and what is told is the asker's own."""

import unittest

from mustpass.guards import bars_of, common, guards, guards_of, nearest
from mustpass.loops import back_doors, loops, wild_ring
from mustpass.marks import edge, joins
from mustpass.nets import Net
from mustpass.ways import reached, way_past, way_to
from tests.helper import FORK

# A net with a wild ring, several loops, and rooms that have edges, joins and bars.
ROOMS = 8
DOORS = FORK + [(0, 7), (7, 4), (4, 4), (5, 0), (7, 7)]


def lists_told(net):
    """Every list that the program tells of this net, those within others too."""
    told = [net.doors(), reached(net), back_doors(net), wild_ring(net), joins(net, []), joins(net, [2, 5])]
    for room in range(ROOMS):
        told.extend([net.leads(room), net.led(room)])
    for room in reached(net):
        told.extend([way_to(net, room), way_past(net, room, 6), guards_of(net, room), bars_of(net, room)])
        told.extend([edge(net, room), joins(net, [room])])
    row = loops(net)
    return told + [row] + [rooms for head, rooms in row]


def all_answers(net):
    """Every answer about this net, in a form that nothing can change."""
    pairs = [(room, other) for room in range(ROOMS) for other in reached(net)]
    return repr([lists_told(net), [guards(net, room, other) for room, other in pairs],
                 [nearest(net, room) for room in reached(net)],
                 [common(net, [room, other]) for room, other in pairs if room != 6]])


class TestWhatIsTold(unittest.TestCase):

    def test_no_two_lists_are_one(self):
        net = Net(ROOMS, DOORS)
        told = lists_told(net) + lists_told(net)
        self.assertEqual({type(one) for one in told}, {list})
        self.assertEqual(len({id(one) for one in told}), len(told))

    def test_changed_and_asked_for_again(self):
        net = Net(ROOMS, DOORS)
        before = all_answers(net)
        for place in range(len(lists_told(net))):
            for change in (lambda one: one.clear(), lambda one: one.append(3), lambda one: one.insert(0, -1),
                           lambda one: one.extend([9, 9]), lambda one: one.reverse()):
                change(lists_told(net)[place])
            self.assertEqual(all_answers(net), before)

    def test_the_lists_inside_of_loops(self):
        net = Net(4, [(0, 1), (1, 2), (2, 1), (2, 3), (3, 0)])
        answer = [(0, [0, 1, 2, 3]), (1, [1, 2])]
        told = loops(net)
        self.assertEqual(told, answer)
        for head, rooms in told:
            rooms.clear()
        self.assertEqual(loops(net), answer)
        told = loops(net)
        told[0][1].append(7)
        self.assertEqual(told[1], (1, [1, 2]))
        told.clear()
        self.assertEqual(loops(net), answer)
        self.assertEqual(reached(net), [0, 1, 2, 3])

    def test_empty_lists_are_the_askers_own_too(self):
        net = Net(2, [])
        for call, handed in ((back_doors, []), (loops, []), (joins, [[]]), (edge, [0]), (bars_of, [0])):
            call(net, *handed).append(5)
            self.assertEqual(call(net, *handed), [])


class TestWhatIsHandedIn(unittest.TestCase):

    def test_a_list_of_rooms_stays_as_it_was(self):
        net = Net(ROOMS, DOORS)
        for some in ([5], [5, 2, 5, 0], [4, 3, 2, 1], [0], [7, 5] * 30):
            for call in (common, joins):
                handed = list(some)
                call(net, handed)
                self.assertEqual(handed, some)
        handed = []
        joins(net, handed)
        self.assertEqual(handed, [])

    def test_a_list_of_rooms_is_not_told_again(self):
        net = Net(3, [(0, 1), (0, 2), (1, 2), (2, 1)])
        for handed in ([1, 2], []):
            answer = list(handed)
            told = joins(net, handed)
            self.assertEqual(told, answer)
            handed.append(1)
            self.assertEqual(told, answer)

    def test_a_list_of_rooms_may_be_changed_later(self):
        net = Net(ROOMS, DOORS)
        before = all_answers(net)
        some = [2, 5]
        told = (joins(net, some), common(net, some))
        some.clear()
        self.assertEqual((joins(net, [2, 5]), common(net, [2, 5])), told)
        self.assertEqual(joins(net, some), [])
        some.append(3)
        self.assertEqual(common(net, some), 3)
        self.assertEqual(all_answers(net), before)

    def test_the_doors_may_be_changed_later(self):
        doors = list(DOORS)
        net = Net(ROOMS, doors)
        before = all_answers(net)
        self.assertEqual(doors, DOORS)
        doors.append((0, 6))
        self.assertEqual(all_answers(net), before)
        doors.clear()
        self.assertEqual(all_answers(net), before)
        self.assertEqual(all_answers(Net(ROOMS, DOORS)), before)

    def test_nets_do_not_mix(self):
        first, second = Net(ROOMS, DOORS), Net(ROOMS, FORK)
        before = all_answers(first)
        self.assertIsNone(wild_ring(second))
        self.assertEqual(loops(second), [(1, [1, 2, 3, 4, 5])])
        self.assertEqual(joins(second, [2]), [1, 4])
        self.assertEqual(all_answers(first), before)


if __name__ == "__main__":
    unittest.main()
