"""Attitudes, commands and motions, and which stars are seen from where."""

from starward.errors import InvalidAttitude, InvalidCommand, InvalidMotion, InvalidSighting
from starward.places import composed, inverse, is_pose, quarter_turned
from starward.sky import is_spot


def attitudes(sky):
    """Return the ascending list of all attitudes."""
    side = sky.side
    return [(x, y, quarter) for x in range(side) for y in range(side) for quarter in range(4)]


def motions(sky):
    """Return the ascending list of all motions."""
    # A motion is written like the attitude to which it takes (0, 0, 0).
    return attitudes(sky)


def check_attitude(sky, attitude):
    """Raise InvalidAttitude if the tuple is no attitude of the sky."""
    if not is_pose(sky.side, attitude):
        raise InvalidAttitude(attitude)


def check_command(sky, command):
    """Raise InvalidCommand if the tuple is no command for the sky."""
    if not _is_command(sky.side, command):
        raise InvalidCommand(command)


def check_motion(sky, motion):
    """Raise InvalidMotion if the tuple is no motion of the sky."""
    if not is_pose(sky.side, motion):
        raise InvalidMotion(motion)


def check_two(sky, one, other):
    """Raise InvalidAttitude for the first of the two tuples that is no attitude."""
    check_attitude(sky, one)
    check_attitude(sky, other)


def check_attitudes(sky, told):
    """Raise InvalidAttitude for the first tuple of the list that is no attitude."""
    for attitude in told:
        check_attitude(sky, attitude)


def check_commands(sky, told):
    """Raise InvalidCommand for the first tuple of the list that is no command."""
    for command in told:
        check_command(sky, command)


def _is_command(side, command):
    """Return True if the tuple is a command for a sky of this side."""
    if len(command) != 3:
        return False
    dx, dy, quarter = command
    return abs(dx) < side and abs(dy) < side and 0 <= quarter <= 3


def turned(quarters, pair):
    """Return the pair turned by so many quarter turns, counted modulo 4."""
    return quarter_turned(quarters, pair)


def offset(sky, attitude, number):
    """Return the offset of the star, or None if it is not in reach. Raise InvalidAttitude, then UnknownStar."""
    check_attitude(sky, attitude)
    return _offset_of(sky, attitude, sky.star_at(number))


def _offset_of(sky, attitude, star):
    """Return the offset of the star, a tuple, or None if it is not in reach."""
    aside = (_nearest(sky.side, star[0] - attitude[0]), _nearest(sky.side, star[1] - attitude[1]))
    dx, dy = quarter_turned(4 - attitude[2], aside)
    bound = sky.reach + sky.blur
    if abs(dx) > bound or abs(dy) > bound:
        return None
    return (dx, dy)


def _nearest(side, part):
    """Return the integer that is nearest to 0 among those that are the part modulo the side."""
    # Where two are as near, neither is in reach, so it does not matter which one is returned.
    half = side // 2
    return (part + half) % side - half


def appearances(sky, attitude):
    """Return a dict from the stars that can be seen, ascending, to tuples (dx, dy, brightness).

    The first two parts are the offset. The attitude is not checked.
    """
    shown = {}
    faintest = sky.limit - sky.glare
    for number, star in enumerate(sky.stars):
        aside = _offset_of(sky, attitude, star)
        if aside is not None and star[2] >= faintest:
            shown[number] = (aside[0], aside[1], star[2])
    return shown


def sure_among(sky, shown):
    """Return the ascending list of the sure stars of a dict that `appearances` returned."""
    bound = sky.reach - sky.blur
    faintest = sky.limit + sky.glare
    return [number for number, (dx, dy, brightness) in shown.items()
            if abs(dx) <= bound and abs(dy) <= bound and brightness >= faintest]


def seen_stars(sky, attitude):
    """Return the ascending list of the stars that can be seen. Raise InvalidAttitude."""
    check_attitude(sky, attitude)
    return list(appearances(sky, attitude))


def sure_stars(sky, attitude):
    """Return the ascending list of the stars that are sure. Raise InvalidAttitude."""
    check_attitude(sky, attitude)
    return sure_among(sky, appearances(sky, attitude))


def are_near(one, other, blur, glare):
    """Return True if two tuples (dx, dy, brightness) differ by at most the blur, the blur and the glare."""
    return abs(one[0] - other[0]) <= blur and abs(one[1] - other[1]) <= blur and abs(one[2] - other[2]) <= glare


def fits(sky, attitude, number, spot):
    """Return True if the spot fits the star. Raise InvalidAttitude, UnknownStar, InvalidSighting."""
    check_attitude(sky, attitude)
    star = sky.star_at(number)
    if not is_spot(sky, spot):
        raise InvalidSighting("a spot breaks a rule")
    aside = _offset_of(sky, attitude, star)
    return aside is not None and are_near((aside[0], aside[1], star[2]), spot, sky.blur, sky.glare)


def commanded(sky, attitude, command):
    """Return the attitude to which the command leads. Raise InvalidAttitude, InvalidCommand."""
    check_attitude(sky, attitude)
    check_command(sky, command)
    # The command counts from the camera: as if it were done at (0, 0, 0), and all then moved to the attitude.
    return composed(sky.side, command, attitude)


def taken_back(sky, command):
    """Return the command that leads back. Raise InvalidCommand."""
    check_command(sky, command)
    return inverse(sky.side, command)


def moved(sky, attitude, motion):
    """Return the attitude to which the motion takes it. Raise InvalidAttitude, InvalidMotion."""
    check_attitude(sky, attitude)
    check_motion(sky, motion)
    return composed(sky.side, attitude, motion)


def motion_between(sky, one, other):
    """Return the motion that takes the first attitude to the second one. Raise InvalidAttitude."""
    check_two(sky, one, other)
    return composed(sky.side, inverse(sky.side, one), other)


def joined(sky, first, second):
    """Return the motion that does the first motion and then the second one. Raise InvalidMotion."""
    check_motion(sky, first)
    check_motion(sky, second)
    return composed(sky.side, first, second)


def reversed_motion(sky, motion):
    """Return the motion that takes all back. Raise InvalidMotion."""
    check_motion(sky, motion)
    return inverse(sky.side, motion)


def apart(sky, one, other):
    """Return how far two attitudes are apart, or None if their quarters differ. Raise InvalidAttitude."""
    check_two(sky, one, other)
    if one[2] != other[2]:
        return None
    return max(abs(_nearest(sky.side, one[0] - other[0])), abs(_nearest(sky.side, one[1] - other[1])))


def are_far(sky, one, other, slack):
    """Return True if two attitudes are far at the slack. Raise InvalidAttitude."""
    steps = apart(sky, one, other)
    return steps is None or steps > slack
