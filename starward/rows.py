"""Rows of commands: what can be and what can be confused over many frames."""

from starward.attitudes import attitudes, check_attitude, check_command, check_commands, check_two
from starward.confuse import common_sighting
from starward.frames import slowest
from starward.pairs import Lacks
from starward.places import composed, inverse, is_pose
from starward.sightings import frames_of, is_within
from starward.sky import check_sightings
from starward.turns import along, last_commands

START = (0, 0, 0)


def course(sky, beginning, row):
    """Return the course of the row. Raise InvalidAttitude, then InvalidCommand."""
    check_attitude(sky, beginning)
    check_commands(sky, row)
    return along(sky.side, beginning, row)


def row_need(sky, beginning, row, sightings):
    """Return the row need of the beginning. Raise InvalidAttitude, InvalidCommand, InvalidSighting."""
    attitudes_there = course(sky, beginning, row)
    check_sightings(sky, sightings)
    needed = [frame.need(there) for frame, there in zip(frames_of(sky, sightings), attitudes_there)]
    return _sums(needed)


def _sums(told):
    """Return the tuple of the sum of all first numbers and that of all second ones."""
    return (sum([first for first, _ in told]), sum([second for _, second in told]))


def beginnings(sky, row, sightings, missing, false, each=None):
    """Return the ascending list of all beginnings that can be. Raise InvalidCommand, then InvalidSighting."""
    check_commands(sky, row)
    check_sightings(sky, sightings)
    frames = frames_of(sky, sightings)
    # Seen from the beginning, the course is the same wherever it begins.
    poses = along(sky.side, START, row)
    return [beginning for beginning in attitudes(sky)
            if _can_begin(sky.side, frames, poses, beginning, (missing, false), each)]


def _can_begin(side, frames, poses, beginning, totals, each):
    """Return True if a beginning can be with these totals and bounds of each frame, otherwise False."""
    missing, false = 0, 0
    for frame, pose in zip(frames, poses):
        needed = frame.need(composed(side, pose, beginning))
        if each is not None and not is_within(needed, each[0], each[1]):
            return False
        missing += needed[0]
        false += needed[1]
        if not is_within((missing, false), totals[0], totals[1]):
            return False
    return True


def row_lacks(sky, one, other, row):
    """Return the list, frame by frame, of the tuples of both lacks. Raise InvalidAttitude, then InvalidCommand."""
    check_two(sky, one, other)
    return _row_lacks(sky, course(sky, one, row), course(sky, other, row))


def _row_lacks(sky, first, second):
    """Return the list of the tuples of both lacks of the attitudes of two courses, frame by frame."""
    lacks = Lacks(sky)
    return [lacks.both(one, other) for one, other in zip(first, second)]


def are_confusable_over(sky, one, other, row, missing, false, each=None):
    """Return True if the two are confusable over the row. Raise InvalidAttitude, then InvalidCommand."""
    lacks = row_lacks(sky, one, other, row)
    return _shares(lacks, (missing, false), each) is not None


def _shares(lacks, totals, each):
    """Return for both lacks how many sure stars are missing in each frame, a list of tuples, or None if none can be."""
    bounds = totals if each is None else each
    missing = _missing_ones([first for first, _ in lacks], totals, bounds)
    missing_other = _missing_ones([second for _, second in lacks], totals, bounds)
    if missing is None or missing_other is None:
        return None
    return list(zip(missing, missing_other))


def _missing_ones(lacks, totals, each):
    """Return the list of how many stars that lack are missing in each frame, or None if the bounds leave no choice.

    Each other one has a spot of its own, which is false for the other attitude.
    """
    missing = [max(0, lack - each[1]) for lack in lacks]
    # Where more would be false than the total allows, so many more have to be missing.
    more = max(0, sum(lacks) - totals[1] - sum(missing))
    if sum(missing) + more > totals[0] or any([lack > each[0] + each[1] for lack in lacks]):
        return None
    for frame, lack in enumerate(lacks):
        added = min(more, lack - missing[frame], each[0] - missing[frame])
        missing[frame] += added
        more -= added
    return missing if more == 0 else None


def confusing_sightings(sky, one, other, row, missing, false, each=None):
    """Return a list of sightings that lets both be, or None if there is none.

    Raise InvalidAttitude, then InvalidCommand.
    """
    check_two(sky, one, other)
    first, second = course(sky, one, row), course(sky, other, row)
    shares = _shares(_row_lacks(sky, first, second), (missing, false), each)
    if shares is None:
        return None
    return [common_sighting(sky, here, there, share[0], share[1]) for here, there, share in zip(first, second, shares)]


def quickest_row(sky, one, other, allowed, missing, false):
    """Return a shortest row over which the two are not confusable, or None if there is none.

    Raise InvalidAttitude, then InvalidCommand.
    """
    check_two(sky, one, other)
    check_commands(sky, allowed)
    lacks = Lacks(sky)
    motion = composed(sky.side, inverse(sky.side, one), other)
    # A way is told by where the first one is, by which lack is summed, and by the sum.
    queue = [(one, which, lacks.both(one, other)[which]) for which in (0, 1)]
    came = {way: None for way in queue}
    at = 0
    while at < len(queue):
        there, which, total = queue[at]
        if total > missing + false:
            return _traced(came, queue[at])
        for command in allowed:
            following = composed(sky.side, command, there)
            lack = lacks.both(following, composed(sky.side, following, motion))[which]
            way = (following, which, total + lack)
            if way not in came:
                came[way] = (queue[at], command)
                queue.append(way)
        at += 1
    return None


def _traced(came, last):
    """Return the list of the commands by which one came to the last way."""
    row = []
    step = came[last]
    while step is not None:
        row.append(step[1])
        step = came[step[0]]
    return list(reversed(row))


def standstill(sky, one, other, allowed):
    """Return the ascending lot of the two if all its pairs have both lacks 0, otherwise None.

    Raise InvalidAttitude, then InvalidCommand.
    """
    check_two(sky, one, other)
    check_commands(sky, allowed)
    motion = composed(sky.side, inverse(sky.side, one), other)
    there = sorted(last_commands(sky.side, one, allowed))
    lot = [(first, composed(sky.side, first, motion)) for first in there]
    return lot if _never_lack(sky, lot) else None


def _never_lack(sky, pairs):
    """Return True if all pairs of attitudes have both lacks 0, otherwise False."""
    lacks = Lacks(sky)
    return all([lacks.both(first, second) == (0, 0) for first, second in pairs])


def check_standstill(sky, one, other, allowed, pairs):
    """Return True if the list of pairs shows that the two are never told apart, otherwise False.

    Raise InvalidAttitude, then InvalidCommand.
    """
    check_two(sky, one, other)
    check_commands(sky, allowed)
    told = {pair: True for pair in pairs}
    if not all([is_pose(sky.side, first) and is_pose(sky.side, second) for first, second in told]):
        return False
    led = [(composed(sky.side, command, first), composed(sky.side, command, second))
           for first, second in told for command in allowed]
    return (one, other) in told and all([pair in told for pair in led]) and _never_lack(sky, list(told))


def frames_enough(sky, command, missing, false, slack):
    """Return how many frames are enough if the command is done again and again, or None. Raise InvalidCommand."""
    check_command(sky, command)
    frames, _ = slowest(sky, command, missing + false, slack)
    return frames


def slowest_pair(sky, command, missing, false, slack):
    """Return the first pair of far beginnings that needs the most frames. Raise InvalidCommand."""
    check_command(sky, command)
    _, pair = slowest(sky, command, missing + false, slack)
    return pair
