"""Back doors, the loops that they close, and rings that no room of theirs guards."""

from mustpass.guards import guarded
from mustpass.ways import reached


def back_doors(net):
    rows = [guarded(net, room) for room in range(net.rooms())]
    return [number for number, door in enumerate(net.doors()) if door[0] in rows[door[1]]]


def back_pairs(net):
    doors = net.doors()
    return [doors[number] for number in back_doors(net)]


def loop_rooms(net, head, last_rooms):
    # The head counts as found from the start, so nothing is looked for beyond it.
    found = {head: True}
    waiting = list(last_rooms)
    while waiting:
        room = waiting.pop()
        if room not in found:
            found[room] = True
            waiting.extend(net.led(room))
    # Doors may lead into the loop from rooms that are not reached: these are not of it.
    return [room for room in reached(net) if room in found]


def loops(net):
    pairs = back_pairs(net)
    told = []
    for head in sorted(set([end for start, end in pairs])):
        last_rooms = [start for start, end in pairs if end == head]
        told.append((head, loop_rooms(net, head, last_rooms)))
    return told


def leads_without_back_doors(net):
    pairs = back_pairs(net)
    leads = {}
    for room in reached(net):
        leads[room] = [further for further in net.leads(room) if (room, further) not in pairs]
    return leads


# Leaves out, until there is none, the rooms from which no door leads into a room that is left:
# from what is left one can go on without end.
def without_dead_ends(leads):
    left = leads
    shrinks = True
    while shrinks:
        fewer = {}
        for room in left:
            onward = [further for further in left[room] if further in left]
            if onward:
                fewer[room] = onward
        shrinks = len(fewer) < len(left)
        left = fewer
    return left


def ring_within(leads):
    walked = []
    room = list(leads)[0]
    while room not in walked:
        walked.append(room)
        room = leads[room][0]
    return walked[walked.index(room):]


def wild_ring(net):
    # Where one room of a ring guards all of them, the ring's door into that room is a back door:
    # so a ring without back doors is wild. And where there is a wild ring, there is one without back doors:
    # it goes from what one room guards into what another one guards, and there into that other room itself,
    # by doors that are none; and from a room to any that it guards there is a way that goes through no room twice,
    # which has none either.
    left = without_dead_ends(leads_without_back_doors(net))
    return ring_within(left) if left else None
