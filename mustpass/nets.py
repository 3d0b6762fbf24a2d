"""Nets: rooms, and doors that lead one way alone."""

from mustpass.errors import NoNet, NoRoom

MOST_ROOMS = 40
MOST_DOORS = 100


def is_room(rooms, room):
    return 0 <= room < rooms


def check_net(rooms, doors):
    if rooms < 1 or rooms > MOST_ROOMS:
        raise NoNet(f"a net has 1 to {MOST_ROOMS} rooms")
    if len(doors) > MOST_DOORS:
        raise NoNet(f"a net has at most {MOST_DOORS} doors")
    for start, end in doors:
        if not is_room(rooms, start) or not is_room(rooms, end):
            raise NoNet("a door leads from a room of the net into a room of the net")


def rooms_led_into(doors, room):
    return sorted(set([end for start, end in doors if start == room]))


def rooms_led_from(doors, room):
    return sorted(set([start for start, end in doors if end == room]))


class Net:

    # The lists kept here are the net's own: they are made anew from what is handed in,
    # and only copies of them are told, so nobody outside can change the net through a list.
    def __init__(self, rooms, doors):
        check_net(rooms, doors)
        self.size = rooms
        self.pairs = [(start, end) for start, end in doors]
        self.onward = [rooms_led_into(self.pairs, room) for room in range(rooms)]
        self.backward = [rooms_led_from(self.pairs, room) for room in range(rooms)]

    def rooms(self):
        return self.size

    def doors(self):
        return list(self.pairs)

    def leads(self, room):
        self.check_room(room)
        return list(self.onward[room])

    def led(self, room):
        self.check_room(room)
        return list(self.backward[room])

    def check_room(self, room):
        if not is_room(self.size, room):
            raise NoRoom("the net does not have this room")
