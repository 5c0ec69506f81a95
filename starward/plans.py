"""Rows of commands that tell attitudes apart, and what shows that none does. There are no slips here."""

from starward.attitudes import attitudes, check_commands, check_motion, check_two
from starward.confuse import common_sighting
from starward.pairs import Lacks
from starward.places import composed, inverse, is_pose
from starward.sightings import frames_of, is_within
from starward.sky import is_sighting
from starward.tellings import Untold, telling_places_of_all
from starward.turns import along, last_commands, traced_row

START = (0, 0, 0)


def tells(sky, row, one, other, missing, false):
    """Return the number of the first frame in which the row tells two attitudes apart, or None.

    Raise InvalidCommand, then InvalidAttitude.
    """
    check_commands(sky, row)
    check_two(sky, one, other)
    lacks = Lacks(sky)
    for frame, (first, second) in enumerate(zip(along(sky.side, one, row), along(sky.side, other, row))):
        if max(lacks.both(first, second)) > missing + false:
            return frame
    return None


def telling_row(sky, one, other, commands, missing, false):
    """Return the first one of the shortest rows that tell two attitudes apart, or None.

    Raise InvalidAttitude, then InvalidCommand.
    """
    last, pairs = _reached_pairs(sky, one, other, commands)
    lacks = Lacks(sky)
    for first, second in pairs:
        if max(lacks.both(first, second)) > missing + false:
            return traced_row(sky.side, last, first)
    return None


def _reached_pairs(sky, one, other, commands):
    """Return what `last_commands` returns for the first of two attitudes, and all pairs reached in its order.

    Raise InvalidAttitude, then InvalidCommand.
    """
    check_two(sky, one, other)
    check_commands(sky, commands)
    last = last_commands(sky.side, one, commands)
    motion = composed(sky.side, inverse(sky.side, one), other)
    return (last, [(there, composed(sky.side, there, motion)) for there in last])


def closed_lot(sky, one, other, commands, missing, false):
    """Return a closed lot of all pairs that rows lead to from two attitudes, ascending, or None.

    Raise InvalidAttitude, then InvalidCommand.
    """
    _, pairs = _reached_pairs(sky, one, other, commands)
    lacks = Lacks(sky)
    if not all([max(lacks.both(first, second)) <= missing + false for first, second in pairs]):
        return None
    return [(first, second, common_sighting(sky, first, second, missing, missing)) for first, second in sorted(pairs)]


def check_closed(sky, one, other, commands, missing, false, lot):
    """Return True if the list is a closed lot with two attitudes, otherwise False.

    Raise InvalidAttitude, then InvalidCommand.
    """
    check_two(sky, one, other)
    check_commands(sky, commands)
    for first, second, sighting in lot:
        if not (is_pose(sky.side, first) and is_pose(sky.side, second) and is_sighting(sky, sighting)):
            return False
    told = {(first, second): True for first, second, _ in lot}
    if len(told) < len(lot) or (one, other) not in told:
        return False
    for first, second in told:
        for command in commands:
            if (composed(sky.side, command, first), composed(sky.side, command, second)) not in told:
                return False
    frames = frames_of(sky, [sighting for _, _, sighting in lot])
    return all([is_within(frame.need(first), missing, false) and is_within(frame.need(second), missing, false)
                for frame, (first, second, _) in zip(frames, lot)])


def telling_places(sky, motion, missing, false):
    """Return the ascending list of the places that tell a motion. Raise InvalidMotion."""
    check_motion(sky, motion)
    lacks = Lacks(sky)
    there = [(x, y, 0) for x in range(sky.side) for y in range(sky.side)]
    return [(one[0], one[1]) for one in there
            if max(lacks.both(one, composed(sky.side, one, motion))) > missing + false]


def hidden_motions(sky, missing, false):
    """Return the ascending list of the hidden motions."""
    # Motions are written like attitudes.
    told = telling_places_of_all(sky, missing + false)
    return [motion for motion, places in zip(attitudes(sky), told) if not places]


def untold(sky, row, slack, missing, false):
    """Return the ascending list of the pairs of far attitudes that a row does not tell apart. Raise InvalidCommand."""
    check_commands(sky, row)
    left = Untold(sky, slack, missing + false)
    for place in _places(along(sky.side, START, row)):
        left.look_from(place)
    every = attitudes(sky)
    return [(every[one], every[other]) for one, other in left.pairs()]


def _places(poses):
    """Return the list of the places of attitudes, each once, in the order in which they come."""
    return list({(x, y): True for x, y, _ in poses})


def finding_row(sky, slack, commands, missing, false):
    """Return a row that finds the attitude and of which no shorter beginning does, or None. Raise InvalidCommand."""
    if never_told(sky, slack, commands, missing, false) is not None:
        return None
    left = Untold(sky, slack, missing + false)
    left.look_from((0, 0))
    looked = {(0, 0): True}
    row = []
    there = START
    while not left.is_empty():
        # As all is told from all places together, there is one more to look from.
        last = last_commands(sky.side, there, commands)
        there = [pose for pose in last if (pose[0], pose[1]) not in looked][0]
        row.extend(traced_row(sky.side, last, there))
        looked[(there[0], there[1])] = True
        left.look_from((there[0], there[1]))
    return row


def never_told(sky, slack, commands, missing, false):
    """Return the first pair of far attitudes that no row of the commands tells apart, or None.

    Raise InvalidCommand.
    """
    check_commands(sky, commands)
    left = Untold(sky, slack, missing + false)
    for place in _places(last_commands(sky.side, START, commands)):
        left.look_from(place)
    found = left.first()
    if found is None:
        return None
    every = attitudes(sky)
    return (every[found[0]], every[found[1]])


def longest_telling(sky, slack, commands, missing, false):
    """Return the most commands that a shortest row has that tells two far attitudes apart. Raise InvalidCommand."""
    check_commands(sky, commands)
    left = Untold(sky, slack, missing + false)
    last = last_commands(sky.side, START, commands)
    depths = {}
    longest = 0
    looked = {}
    for there, command in last.items():
        # Attitudes come in the order of their first shortest rows, so the one ahead has its depth already.
        before = None if command is None else composed(sky.side, inverse(sky.side, command), there)
        depths[there] = 0 if before is None else depths[before] + 1
        place = (there[0], there[1])
        if place not in looked:
            looked[place] = True
            if left.look_from(place):
                longest = depths[there]
    return longest
