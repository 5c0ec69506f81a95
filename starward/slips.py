"""What rows of commands tell if the commands slip, and what shows that they do not."""

from starward.attitudes import are_far, attitudes, check_commands
from starward.courses import Courses, in_both
from starward.pairs import Lacks
from starward.turns import is_course


def pairs_behind(sky, row, slip, missing, false):
    """Return the ascending list of the pairs with which pair courses along a row end. Raise InvalidCommand."""
    check_commands(sky, row)
    courses = Courses(sky, slip, missing + false)
    lot = courses.confusable()
    for command in row:
        lot = courses.behind(lot, command)
    every = attitudes(sky)
    return [(every[one], every[other]) for one, other in courses.numbers(lot)]


def fooling(sky, row, slip, slack, missing, false):
    """Return a pair course along a row that ends with a far pair, or None. Raise InvalidCommand."""
    check_commands(sky, row)
    courses = Courses(sky, slip, missing + false)
    layers = _layers(courses, courses.confusable(), row)
    end = courses.some(courses.far(layers[-1], slack))
    return None if end is None else _course_to(courses, row, layers, end, [])


def _layers(courses, lot, row):
    """Return the list of the lots with which pair courses along each beginning of a row end that begin in a lot."""
    layers = [lot]
    for command in row:
        layers.append(courses.behind(layers[-1], command))
    return layers


def _course_to(courses, row, layers, end, wished):
    """Return a pair course along a row through these lots to a pair of the last one, from a wished pair if it can."""
    lots = [courses.only(end)]
    for command, layer in reversed(list(zip(row, layers))):
        lots.append(courses.before(lots[-1], command, layer))
    lots.reverse()
    # All pairs of these lots come to the end along what is left of the row.
    begins = [pair for pair in wished if courses.some(in_both(courses.only(pair), lots[0])) is not None]
    pairs = [begins[0] if begins else courses.some(lots[0])]
    for command, lot in zip(row, lots[1:]):
        led = courses.behind(courses.only(pairs[-1]), command)
        pairs.append(courses.some(in_both(led, lot)))
    return pairs


def check_fooling(sky, row, slip, slack, missing, false, pairs):
    """Return True if the list is a pair course along a row that ends with a far pair. Raise InvalidCommand."""
    check_commands(sky, row)
    return (_is_pair_course(sky, row, slip, missing + false, pairs)
            and are_far(sky, pairs[-1][0], pairs[-1][1], slack))


def _is_pair_course(sky, row, slip, bound, pairs):
    """Return True if the list of tuples of two attitudes is a pair course along a row, otherwise False."""
    if not is_course(sky, [one for one, _ in pairs], row, slip):
        return False
    if not is_course(sky, [other for _, other in pairs], row, slip):
        return False
    lacks = Lacks(sky)
    return all([max(lacks.both(one, other)) <= bound for one, other in pairs])


def rounds(sky, row, slip, slack, missing, false):
    """Return ("found", rounds) if no pair is far behind so many, or ("never", ring, way). Raise InvalidCommand."""
    check_commands(sky, row)
    courses = Courses(sky, slip, missing + false)
    layers = [courses.confusable()]
    done = 0
    while courses.some(courses.far(layers[-1], slack)) is not None:
        layers = _layers(courses, layers[-1], row)
        if layers[-1] == layers[0]:
            ring, way = _ring_and_way(courses, row, layers, slack)
            return ("never", ring, way)
        done += 1
    return ("found", done)


def _ring_and_way(courses, row, layers, slack):
    """Return a tuple of a ring and a way to a far pair, where the lots are the same behind each further round."""
    ends = [courses.some(courses.far(layers[-1], slack))]
    if not row:
        return (ends, list(ends))
    # Round by round back from the far pair, until one comes to a pair where one was.
    legs = []
    while True:
        leg = _course_to(courses, row, layers, ends[-1], ends)
        legs.append(leg)
        if leg[0] in ends:
            break
        ends.append(leg[0])
    place = ends.index(leg[0])
    return (_joined(leg[0], legs[place:]), _joined(leg[0], legs[:place]))


def _joined(begin, legs):
    """Return the pair course from a pair on that goes along all legs, the last one first."""
    pairs = [begin]
    for leg in reversed(legs):
        pairs.extend(leg[1:])
    return pairs


def check_ring(sky, row, slip, slack, missing, false, ring, way):
    """Return True if two lists are a ring and a way to a far pair, otherwise False. Raise InvalidCommand."""
    check_commands(sky, row)
    if not ring or not way or ring[0] != ring[-1] or way[0] != ring[0]:
        return False
    if row and len(ring) == 1:
        return False
    for pairs in (ring, way):
        turns = (len(pairs) - 1) // len(row) if row else 0
        if not _is_pair_course(sky, row * turns, slip, missing + false, pairs):
            return False
    return are_far(sky, way[-1][0], way[-1][1], slack)
