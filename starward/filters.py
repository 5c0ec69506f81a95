"""What attitudes can be behind a log of turns and looks."""

from starward.attitudes import attitudes, check_attitude, check_attitudes, check_command
from starward.places import composed
from starward.sightings import Frame, is_within, least_of
from starward.sky import check_sighting
from starward.turns import led_from, led_to

TURN = "turn"


def _check_log(sky, log):
    """Raise InvalidCommand or InvalidSighting for the first event that has none."""
    for word, told in log:
        if word == TURN:
            check_command(sky, told)
        else:
            check_sighting(sky, told)


def _frames_in(sky, log):
    """Return a dict from the sightings of the log to their frames."""
    return {told: Frame(sky, told) for word, told in log if word != TURN}


def known(sky, log, slip, missing, false):
    """Return the ascending list of the attitudes that can be look by look. Raise InvalidCommand or InvalidSighting."""
    _check_log(sky, log)
    return _lots(sky, log, slip, missing, false)[-1]


def _lots(sky, log, slip, missing, false):
    """Return the lots of the attitudes that can be look by look, ahead of the log and behind each event."""
    frames = _frames_in(sky, log)
    lots = [attitudes(sky)]
    for word, told in log:
        if word == TURN:
            lots.append(led_to(sky.side, lots[-1], told, slip))
        else:
            frame = frames[told]
            lots.append([attitude for attitude in lots[-1] if is_within(frame.need(attitude), missing, false)])
    return lots


def frontiers(sky, log, slip):
    """Return a dict from all attitudes to their frontiers, lists. Raise InvalidCommand or InvalidSighting."""
    _check_log(sky, log)
    return _last_front(sky, log, slip, None)


def known_in_all(sky, log, slip, missing, false):
    """Return the ascending list of the attitudes that can be in all. Raise InvalidCommand or InvalidSighting."""
    _check_log(sky, log)
    return list(_last_front(sky, log, slip, (missing, false)))


def _first_front(sky):
    """Return the frontiers ahead of a log: a dict from ascending attitudes to lists."""
    return {attitude: [(0, 0)] for attitude in attitudes(sky)}


def _last_front(sky, log, slip, bounds):
    """Return the frontiers behind the log."""
    frames = _frames_in(sky, log)
    front = _first_front(sky)
    for event in log:
        front = _front_behind(sky.side, front, event, frames, slip, bounds)
    return front


def _front_behind(side, front, event, frames, slip, bounds):
    """Return the frontiers behind an event, with ascending attitudes.

    If there are bounds, needs that are not within them are left out, and attitudes without needs, too.
    """
    word, told = event
    if word == TURN:
        return _turned_front(side, front, told, slip)
    return _looked_front(front, frames[told], bounds)


def _turned_front(side, front, command, slip):
    """Return the frontiers behind a command with slips."""
    led = {composed(side, command, attitude): front[attitude] for attitude in front}
    # Slips along the one direction and then along the other one are all slips.
    for right, up in ((1, 0), (0, 1)):
        led = _slipped_front(side, led, right, up, slip)
    return {attitude: led[attitude] for attitude in sorted(led)}


def _slipped_front(side, front, right, up, slip):
    """Return the frontiers behind slips along one direction."""
    found = {}
    for x, y, quarter in front:
        for steps in range(-slip, slip + 1):
            there = ((x + steps * right) % side, (y + steps * up) % side, quarter)
            found.setdefault(there, []).extend(front[(x, y, quarter)])
    return {attitude: least_of(found[attitude]) for attitude in found}


def _looked_front(front, frame, bounds):
    """Return the frontiers behind a look."""
    found = {}
    for attitude in front:
        more = frame.need(attitude)
        summed = [(missing + more[0], false + more[1]) for missing, false in front[attitude]]
        kept = [needs for needs in summed if bounds is None or is_within(needs, bounds[0], bounds[1])]
        if kept:
            found[attitude] = kept
    return found


def needs_of(sky, log, course):
    """Return the needs of a course of the log, a tuple.

    Raise InvalidCommand or InvalidSighting for the log, then InvalidAttitude.
    """
    _check_log(sky, log)
    check_attitudes(sky, course)
    frames = _frames_in(sky, log)
    missing, false, turns = 0, 0, 0
    for word, told in log:
        if word == TURN:
            turns += 1
        else:
            needed = frames[told].need(course[turns])
            missing += needed[0]
            false += needed[1]
    return (missing, false)


def course_behind(sky, log, slip, missing, false, attitude):
    """Return a course that ends with the attitude and can be look by look, or None.

    Raise InvalidCommand or InvalidSighting for the log, then InvalidAttitude.
    """
    _check_log(sky, log)
    check_attitude(sky, attitude)
    lots = _lots(sky, log, slip, missing, false)
    if attitude not in lots[-1]:
        return None
    course = [attitude]
    for (word, told), lot in reversed(list(zip(log, lots))):
        if word == TURN:
            course.append([there for there in led_from(sky.side, course[-1], told, slip) if there in lot][0])
    return list(reversed(course))


def course_in_all(sky, log, slip, missing, false, attitude):
    """Return a course that ends with the attitude and has needs within the bounds, or None.

    Raise InvalidCommand or InvalidSighting for the log, then InvalidAttitude.
    """
    _check_log(sky, log)
    check_attitude(sky, attitude)
    frames = _frames_in(sky, log)
    fronts = [_first_front(sky)]
    for event in log:
        fronts.append(_front_behind(sky.side, fronts[-1], event, frames, slip, (missing, false)))
    if attitude not in fronts[-1]:
        return None
    course = [attitude]
    left = fronts[-1][attitude][0]
    for (word, told), front in reversed(list(zip(log, fronts))):
        if word == TURN:
            course.append([there for there in led_from(sky.side, course[-1], told, slip)
                           if left in front.get(there, [])][0])
        else:
            needed = frames[told].need(course[-1])
            left = (left[0] - needed[0], left[1] - needed[1])
    return list(reversed(course))
