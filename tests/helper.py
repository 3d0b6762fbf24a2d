"""Nets to test with, and slow plain answers to hold the program's answers against."""

from itertools import combinations, permutations

BIG = 10 ** 60 - 1
# The doors of a net of 7 rooms: two ways from room 1 to room 4, one door back; room 6 is not reached.
FORK = [(0, 1), (1, 2), (1, 3), (2, 4), (3, 4), (4, 5), (5, 1), (6, 4)]
# The doors of a net of 5 rooms: rooms 3 and 4 are not reached, and doors lead from them into reached rooms.
OUTSIDE = [(3, 1), (0, 1), (1, 2), (4, 3), (3, 4), (2, 1), (4, 4), (4, 2)]


def nets_of(rooms, pairs):
    """Every net of so many rooms with some of these doors, none alike."""
    for chosen in range(2 ** len(pairs)):
        yield rooms, [pair for k, pair in enumerate(pairs) if chosen >> k & 1]


def small_nets():
    """Every net of 1 to 3 rooms without doors alike."""
    for rooms in (1, 2, 3):
        yield from nets_of(rooms, [(start, end) for start in range(rooms) for end in range(rooms)])


def four_room_nets():
    """Every net of 4 rooms without doors alike, one of those that differ in the numbers of rooms 1 to 3 alone."""
    renamings = [(0,) + others for others in permutations((1, 2, 3))]
    for rooms, doors in nets_of(4, [(start, end) for start in range(4) for end in range(4)]):
        if all(doors <= sorted((name[start], name[end]) for start, end in doors) for name in renamings):
            yield rooms, doors


def nets_with_doors_alike():
    """Every net of 1 to 3 rooms in which each two rooms have 0 to 2 doors from one into the other."""
    for rooms in (1, 2, 3):
        pairs = [(start, end) for start in range(rooms) for end in range(rooms) if rooms < 3 or start != end]
        for chosen in range(3 ** len(pairs)):
            yield rooms, [pair for turn in (0, 1) for k, pair in enumerate(pairs) if chosen // 3 ** k % 3 > turn]


def numbers(seed):
    """An endless row of numbers without a plan to be seen, the same one in each run."""
    while True:
        seed = (seed * 1103515245 + 12345) % 2 ** 31
        yield seed >> 8


def mixed_doors(row, rooms, many):
    return [(next(row) % rooms, next(row) % rooms) for _ in range(many)]


def mixed_nets():
    """Nets of up to 40 rooms and 100 doors, the same ones in each run."""
    row = numbers(12345)
    for number in range(150):
        rooms = 1 + (number * 7) % 40
        yield rooms, mixed_doors(row, rooms, (number * 13) % 101)


def mixed_tree(row, rooms):
    """An order of the rooms, and a door into each but the first from one shortly before it."""
    order = [0] + sorted(range(1, rooms), key=lambda room: next(row))
    return order, [(order[max(0, k - 1 - next(row) % 3)], order[k]) for k in range(1, rooms)]


def put_among(row, doors, door):
    doors.insert(next(row) % (len(doors) + 1), door)


def reaching_doors(row, rooms, many):
    """Doors by which all rooms are reached but, now and then, a few."""
    doors = mixed_tree(row, rooms)[1]
    for _ in range(next(row) % 3):
        doors.pop()
    for door in mixed_doors(row, rooms, many - len(doors)):
        put_among(row, doors, door)
    return doors


def middle_nets():
    """Nets of 5 to 7 rooms and up to 16 doors, the same ones in each run."""
    row = numbers(777)
    for number in range(360):
        rooms = 5 + number % 3
        yield rooms, reaching_doors(row, rooms, rooms - 1 + number // 3 % 11)


def great_nets():
    """Nets of 8 to 40 rooms and up to 100 doors, most rooms reached, the same ones in each run."""
    row = numbers(999)
    for number in range(66):
        rooms = 8 + number // 2
        yield rooms, reaching_doors(row, rooms, min(100, rooms + next(row) % (rooms // 2 if number % 2 else 61)))


def tame_doors(row, rooms):
    """Doors into rooms that come later in an order, and back doors: in each ring of such a net one guards all."""
    order, doors = mixed_tree(row, rooms)
    for start, end in mixed_doors(row, rooms, next(row) % 12):
        if start < end:
            put_among(row, doors, (order[start], order[end]))
    for start, end in mixed_doors(row, rooms, 100):
        if len(doors) < 100 and start not in come_to(doors, end):
            put_among(row, doors, (start, end))
    return doors


def tame_nets():
    """Tame nets of 5 to 40 rooms with many loops, the same ones in each run."""
    row = numbers(4242)
    for number in range(72):
        rooms = 5 + number // 2
        yield rooms, tame_doors(row, rooms)


def lesser_nets():
    """The nets of which all ways, rings and sets of rooms can be gone through."""
    for nets in (small_nets(), four_room_nets(), nets_with_doors_alike(), middle_nets()):
        yield from nets


def greater_nets():
    """The nets that have too many ways, rings and sets of rooms for that."""
    for nets in (mixed_nets(), great_nets(), tame_nets()):
        yield from nets


def chain(rooms):
    """Doors from each room into the next one, told from the last one on."""
    return [(room, room + 1) for room in reversed(range(rooms - 1))]


def come_to(doors, closed=None):
    """The set of rooms to which a way goes that does not go through the closed one."""
    found = set() if closed == 0 else {0}
    grows = True
    while grows:
        more = {end for start, end in doors if start in found and end != closed}
        grows = not more <= found
        found |= more
    return found


def walks(doors):
    """Of each reached room, all ways to it without a room twice gone through, each with the doors it takes."""
    told = {}
    waiting = [((0,), ())]
    while waiting:
        way, taken = waiting.pop()
        told.setdefault(way[-1], []).append((way, taken))
        for number, (start, end) in enumerate(doors):
            if start == way[-1] and end not in way:
                waiting.append((way + (end,), taken + (number,)))
    return told


def in_all(rows):
    """What stands in each of these rows, in their order, which must be one."""
    shared = set(rows[0]).intersection(*rows)
    orders = {tuple(one for one in row if one in shared) for row in rows}
    assert len(orders) == 1, orders
    return list(orders.pop())


def plain_guards(doors):
    """The guards of each reached room, all ways gone through."""
    return {room: in_all([way for way, taken in told]) for room, told in walks(doors).items()}


def plain_bars(doors):
    """The bars of each reached room, all ways gone through."""
    return {room: in_all([taken for way, taken in told]) for room, told in walks(doors).items()}


def quick_guards(doors):
    """The guards of each reached room, for nets with too many ways: a room is closed, and who is still reached?"""
    found = come_to(doors)
    past = {room: come_to(doors, room) for room in found}
    many = {room: sum(room not in past[guard] for guard in found) for room in found}
    # Of two guards of a room the one that comes first guards the other one, so it has fewer guards itself.
    return {room: sorted((guard for guard in found if room not in past[guard]), key=many.get) for room in found}


def quick_bars(doors, told):
    """The bars of each reached room, for nets with too many ways: a door is taken out, and who is still reached?"""
    without = [come_to(doors[:number] + doors[number + 1:]) for number in range(len(doors))]
    bars = {}
    for room in told:
        barring = [number for number in range(len(doors)) if room not in without[number]]
        bars[room] = sorted(barring, key=lambda number: told[room].index(doors[number][1]))
    return bars


def plain_back_doors(doors, told):
    return [number for number, (start, end) in enumerate(doors) if start in told and end in told[start]]


def plain_loops(doors, told):
    back = [doors[number] for number in plain_back_doors(doors, told)]
    return [(head, plain_loop(doors, told, head, {start for start, end in back if end == head}))
            for head in sorted({end for start, end in back})]


def plain_loop(doors, told, head, tails):
    loop = tails - {head}
    grows = True
    while grows:
        more = {start for start, end in doors if end in loop and start != head and start in told}
        grows = not more <= loop
        loop |= more
    return sorted(loop | {head})


def rings(doors, found):
    """All rings of these rooms, each told once: from its room of the least number on."""
    waiting = [(room,) for room in found]
    while waiting:
        row = waiting.pop()
        if (row[-1], row[0]) in doors:
            yield row
        for end in found:
            if end > row[0] and end not in row and (row[-1], end) in doors:
                waiting.append(row + (end,))


def is_wild(ring, told):
    return not any(all(guard in told[room] for room in ring) for guard in ring)


def is_tame(doors, told):
    """All rings gone through."""
    return not any(is_wild(ring, told) for ring in rings(doors, told))


def shrinks_to_one(doors):
    """Tame, for nets with too many rings: whoever can be come to from one other room alone is put into that one."""
    found = come_to(doors)
    left = {room: {start for start, end in doors if end == room and start in found} for room in found}
    shrinks = True
    while shrinks:
        shrinks = False
        for room in list(left):
            left[room].discard(room)
            if room != 0 and len(left[room]) == 1:
                host = left.pop(room).pop()
                for before in left.values():
                    if room in before:
                        before.remove(room)
                        before.add(host)
                shrinks = True
    return len(left) == 1


def plain_edge(doors, told, room):
    from_inside = {end for start, end in doors if start in told and room in told[start]}
    return sorted(end for end in from_inside if end == room or room not in told[end])


def marks_coming(doors, marked):
    """Of each room the set of marks that come to it, all ways gone through; room 0 is marked too."""
    marked = set(marked) | {0}
    coming = {}
    seen = {(0, 0)}
    waiting = [(0, 0)]
    while waiting:
        place, mark = waiting.pop()
        for start, end in doors:
            if start == place:
                coming.setdefault(end, set()).add(mark)
                further = (end, end if end in marked else mark)
                if further not in seen:
                    seen.add(further)
                    waiting.append(further)
    return coming


def doubly_come_to(doors, marked):
    """The set of rooms but room 0 to which two unlike marks come."""
    return {room for room, marks in marks_coming(doors, marked).items() if room != 0 and len(marks) > 1}


def sets_of(rooms):
    """All sets of these rooms, the least first."""
    for many in range(len(rooms) + 1):
        for chosen in combinations(sorted(rooms), many):
            yield frozenset(chosen)


def plain_joins(doors, found):
    """Of each set of reached rooms but room 0 its joins: the least set that will do, all such sets gone through."""
    sets = list(sets_of(set(found) - {0}))
    doubled = {marked: doubly_come_to(doors, marked) for marked in sets}
    told = {}
    for some in sets:
        will_do = [joined for joined in sets if doubled[some | joined] <= joined]
        assert all(will_do[0] <= joined for joined in will_do)
        told[some] = sorted(will_do[0])
    return told


def is_least(doors, some, joined):
    """Whether no lesser set within these joins will do; they are to be few."""
    return not any(doubly_come_to(doors, some | lesser) <= lesser for lesser in sets_of(joined) if lesser < joined)


def comes_past(leading, marked, room, closed):
    """Whether one can come from one of these rooms to the room, by one door at least, past the closed one."""
    seen = {closed, room}
    waiting = list(leading[room])
    while waiting:
        place = waiting.pop()
        if place in marked and place != closed:
            return True
        if place not in seen:
            seen.add(place)
            waiting.extend(leading[place])
    return False


def quick_joins(doors, some):
    """The joins for nets with too many sets of rooms: where two marks come on ways that share no room but the last.

    They do so where there is no one room that, once it is closed, keeps off all marks.
    """
    found = come_to(doors)
    leading = {room: {start for start, end in doors if end == room and start in found} for room in found}
    joined = set()
    grows = True
    while grows:
        marked = joined | set(some) | {0}
        more = {room for room in found - joined - {0}
                if all(comes_past(leading, marked, room, closed) for closed in found)}
        grows = bool(more)
        joined |= more
    return sorted(joined)


def assert_way(case, doors, room, way):
    case.assertIs(type(way), list)
    case.assertEqual(way[0], 0)
    case.assertEqual(way[-1], room)
    for step in zip(way, way[1:]):
        case.assertIn(step, doors)


def assert_wild_ring(case, doors, told, ring):
    """It is a ring of reached rooms, none of which guards all of them."""
    case.assertIs(type(ring), list)
    case.assertGreater(len(ring), 0)
    case.assertEqual(len(set(ring)), len(ring))
    case.assertLessEqual(set(ring), set(told))
    for step in zip(ring, ring[1:] + ring[:1]):
        case.assertIn(step, doors)
    case.assertTrue(is_wild(ring, told))


def assert_refused(case, error, call, *handed):
    """It is refused with this error, which is none of the other two."""
    from mustpass.errors import NoNet, NoRoom, PassError, Unreached
    with case.assertRaises(error) as taken:
        call(*handed)
    case.assertIsInstance(taken.exception, PassError)
    case.assertIsInstance(taken.exception, ValueError)
    for other in (NoNet, NoRoom, Unreached):
        if other is not error:
            case.assertNotIsInstance(taken.exception, other)


def wrong_rooms(net):
    """Rooms that the net doesn't have."""
    rooms = net.rooms()
    return (-1, -2, -rooms, -rooms - 1, rooms, rooms + 1, 41, 1000, BIG, -BIG)


def spoil(told):
    """Change a told list in every manner that could show elsewhere."""
    told.append(77)
    told[0] = 78
    told.reverse()
    told.insert(0, 79)
