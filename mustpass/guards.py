"""Guards and bars: the rooms and the doors through which every way to a room goes."""

from mustpass.ways import check_all_reached, check_reached, reached, steps_past, way_to


# Told of any room of the net: one that is not reached closes no way, so it guards none.
def guarded(net, room):
    step_before = steps_past(net, room)
    return [other for other in reached(net) if other not in step_before]


# The rooms to be guarded are reached ones: no way past the room means then that every way goes through it.
def guards_all(net, room, some):
    step_before = steps_past(net, room)
    return not any([other in step_before for other in some])


def guards(net, room, other):
    # The first room is looked at first: NoRoom for either goes ahead of Unreached.
    net.check_room(room)
    check_reached(net, other)
    return guards_all(net, room, [other])


def guards_of(net, room):
    # The way that is found goes through no room twice; all ways meet the guards first in one order, so in its order.
    return [place for place in way_to(net, room) if guards_all(net, place, [room])]


def nearest(net, room):
    row = guards_of(net, room)
    return row[-2] if len(row) > 1 else None


# The doors by which one can come to a room for the first time: those from rooms to which a way goes past it.
def first_doors(net, room):
    step_before = steps_past(net, room)
    return [number for number, door in enumerate(net.doors()) if door[1] == room and door[0] in step_before]


def bars_of(net, room):
    # Every way goes through the room behind a bar, and comes to it first by the bar:
    # so a bar is the one first door of a guard, and the bars go in the order of those guards.
    bars = []
    for guard in guards_of(net, room):
        numbers = first_doors(net, guard)
        if len(numbers) == 1:
            bars.extend(numbers)
    return bars


def common(net, some):
    check_all_reached(net, some)
    shared = [room for room in guards_of(net, some[0]) if guards_all(net, room, some)]
    return shared[-1]
