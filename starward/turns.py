"""Where rows of commands lead, without slips and with slips."""

from starward.attitudes import check_attitude, check_attitudes, check_command, check_commands, check_two
from starward.places import composed, inverse, is_pose


def as_one(sky, row):
    """Return the command that does what the row does. Raise InvalidCommand."""
    check_commands(sky, row)
    # A command is written like the attitude to which it leads from (0, 0, 0).
    return along(sky.side, (0, 0, 0), row)[-1]


def along(side, beginning, row):
    """Return the course of the row, a list of attitudes. Nothing is checked."""
    course = [beginning]
    for command in row:
        course.append(composed(side, command, course[-1]))
    return course


def reached(sky, attitude, commands):
    """Return the ascending list of the attitudes that rows of the commands lead to.

    Raise InvalidAttitude, then InvalidCommand.
    """
    check_attitude(sky, attitude)
    check_commands(sky, commands)
    return sorted(last_commands(sky.side, attitude, commands))


def last_commands(side, attitude, commands):
    """Return a dict from each attitude reached to the last command of the first shortest row to it.

    The attitude itself is the first key, with None. Nothing is checked.
    """
    last = {attitude: None}
    queue = [attitude]
    at = 0
    while at < len(queue):
        # Attitudes come in the order of their first shortest rows; so the first row that comes to one is its first.
        for command in commands:
            there = composed(side, command, queue[at])
            if there not in last:
                last[there] = command
                queue.append(there)
        at += 1
    return last


def row_to(sky, attitude, goal, commands):
    """Return the first one of the shortest rows from an attitude to a goal, or None if there is none.

    Raise InvalidAttitude for the attitude, then for the goal, then InvalidCommand.
    """
    check_two(sky, attitude, goal)
    check_commands(sky, commands)
    last = last_commands(sky.side, attitude, commands)
    return traced_row(sky.side, last, goal) if goal in last else None


def traced_row(side, last, goal):
    """Return the first shortest row to a goal, one of the attitudes of a dict that `last_commands` returned."""
    row = []
    there = goal
    while last[there] is not None:
        row.append(last[there])
        there = composed(side, inverse(side, last[there]), there)
    return list(reversed(row))


def behind(sky, lot, command, slip):
    """Return the ascending list of the attitudes to which the command leads with slips from some of the list.

    Raise InvalidAttitude, then InvalidCommand.
    """
    check_attitudes(sky, lot)
    check_command(sky, command)
    return led_to(sky.side, lot, command, slip)


def led_to(side, lot, command, slip):
    """Return the ascending list of the attitudes to which the command leads with slips. Nothing is checked."""
    return sorted({near for attitude in lot for near in around(side, composed(side, command, attitude), slip)})


def led_from(side, attitude, command, slip):
    """Return the list of the attitudes from which the command can lead to this one. Nothing is checked."""
    back = inverse(side, command)
    return [composed(side, back, near) for near in around(side, attitude, slip)]


def around(side, attitude, slip):
    """Return the list of the attitudes to which slips can take an attitude; one can stand there several times."""
    # The lot of all slips is the same in the camera's directions and in those of the sky.
    x, y, quarter = attitude
    slips = range(-slip, slip + 1)
    return [((x + right) % side, (y + up) % side, quarter) for right in slips for up in slips]


def is_course(sky, attitudes, row, slip):
    """Return True if the list is a course with slips along the row, otherwise False. Raise InvalidCommand."""
    check_commands(sky, row)
    if len(attitudes) != len(row) + 1 or not all([is_pose(sky.side, attitude) for attitude in attitudes]):
        return False
    return all([other in around(sky.side, composed(sky.side, command, one), slip)
                for one, command, other in zip(attitudes, row, attitudes[1:])])
