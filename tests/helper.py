"""Nets to test with, and slow plain answers to hold the program's answers against."""

BIG = 10 ** 60 - 1


def small_nets():
    """Every net of 1 to 3 rooms without doors alike."""
    for rooms in (1, 2, 3):
        pairs = [(start, end) for start in range(rooms) for end in range(rooms)]
        for chosen in range(2 ** len(pairs)):
            yield rooms, [pair for k, pair in enumerate(pairs) if chosen >> k & 1]


def mixed_nets():
    """Nets of up to 40 rooms and 100 doors, the same ones in each run."""
    seed = 12345
    for number in range(150):
        rooms = 1 + (number * 7) % 40
        doors = []
        for _ in range((number * 13) % 101):
            seed = (seed * 1103515245 + 12345) % 2 ** 31
            start = (seed >> 8) % rooms
            seed = (seed * 1103515245 + 12345) % 2 ** 31
            doors.append((start, (seed >> 8) % rooms))
        yield rooms, doors


def chain(rooms):
    """Doors from each room into the next one, told from the last one on."""
    return [(room, room + 1) for room in reversed(range(rooms - 1))]


def come_to(doors, closed=None):
    """The set of rooms to which a way goes that does not go through the closed one."""
    found = set() if closed == 0 else {0}
    grows = True
    while grows:
        more = {end for start, end in doors if start in found and end != closed}
        grows = not more <= found
        found |= more
    return found


def assert_way(case, doors, room, way):
    case.assertIs(type(way), list)
    case.assertEqual(way[0], 0)
    case.assertEqual(way[-1], room)
    for step in zip(way, way[1:]):
        case.assertIn(step, doors)


def assert_refused(case, error, call, *handed):
    """It is refused with this error, which is none of the other two."""
    from mustpass.errors import NoNet, NoRoom, PassError, Unreached
    with case.assertRaises(error) as taken:
        call(*handed)
    case.assertIsInstance(taken.exception, PassError)
    case.assertIsInstance(taken.exception, ValueError)
    for other in (NoNet, NoRoom, Unreached):
        if other is not error:
            case.assertNotIsInstance(taken.exception, other)


def spoil(told):
    """Change a told list in every manner that could show elsewhere."""
    told.append(77)
    told[0] = 78
    told.reverse()
    told.insert(0, 79)
