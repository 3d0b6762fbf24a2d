"""The edge of a room, and the joins where unlike marks meet."""

from mustpass.guards import guarded
from mustpass.ways import ENTRANCE, check_all_reached, check_reached


def edge(net, room):
    check_reached(net, room)
    inside = guarded(net, room)
    beyond = [end for start, end in net.doors() if start in inside and (end == room or end not in inside)]
    return sorted(set(beyond))


def joins(net, some):
    check_all_reached(net, some)
    # To each room of a marked room's edge two unlike marks come: one from within what that room guards,
    # and one past it. To no other room two come, once all the rooms of these edges are marked too.
    # The mark at the entrance adds none: the entrance alone can be in its own edge.
    found = {}
    waiting = list(some)
    while waiting:
        room = waiting.pop()
        for further in edge(net, room):
            if further not in found:
                found[further] = True
                waiting.append(further)
    return [room for room in sorted(found) if room != ENTRANCE]
