"""Ways from the entrance, and the rooms that are reached."""

from mustpass.errors import Unreached

ENTRANCE = 0


# Tells of each room to which a way goes past the closed room the room ahead of it on such a way,
# and None of the entrance, so that a way can be traced back from its last room.
# With None as the closed room every way counts.
def steps_past(net, closed):
    if closed == ENTRANCE:
        return {}
    step_before = {ENTRANCE: None}
    waiting = [ENTRANCE]
    while waiting:
        room = waiting.pop(0)
        for further in net.leads(room):
            if further != closed and further not in step_before:
                step_before[further] = room
                waiting.append(further)
    return step_before


def trace_way(step_before, room):
    way = []
    place = room
    while place is not None:
        way.append(place)
        place = step_before[place]
    way.reverse()
    return way


# All rooms are looked at twice: NoRoom for any of them goes ahead of Unreached for any.
def check_all_reached(net, some):
    for room in some:
        net.check_room(room)
    step_before = steps_past(net, None)
    for room in some:
        if room not in step_before:
            raise Unreached("no way leads to this room")


def check_reached(net, room):
    check_all_reached(net, [room])


def reached(net):
    return sorted(steps_past(net, None))


def way_to(net, room):
    check_reached(net, room)
    return trace_way(steps_past(net, None), room)


def way_past(net, room, other):
    # The other room is looked at first: NoRoom for either goes ahead of Unreached.
    net.check_room(other)
    check_reached(net, room)
    step_before = steps_past(net, other)
    if room not in step_before:
        return None
    return trace_way(step_before, room)
