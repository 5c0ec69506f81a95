"""Quarter turns and motions around a sky of some side.

Skies are moved as attitudes are, and neither file may import from the other one, so both take this one.
An attitude is written like the motion that takes (0, 0, 0) to it, and a command like the motion that
takes (0, 0, 0) to where the command leads from there. So one way to join motions serves all three.
"""


def quarter_turned(quarters, pair):
    """Return the pair turned by so many quarter turns, counted modulo 4."""
    x, y = pair
    count = quarters % 4
    if count == 1:
        return (-y, x)
    if count == 2:
        return (-x, -y)
    if count == 3:
        return (y, -x)
    return (x, y)


def is_pose(side, told):
    """Return True if the tuple is a place of the sky and a quarter, as attitudes and motions are."""
    if len(told) != 3:
        return False
    x, y, quarter = told
    return 0 <= x < side and 0 <= y < side and 0 <= quarter <= 3


def composed(side, first, second):
    """Return the motion that does the first motion and then the second one."""
    x, y = quarter_turned(second[2], (first[0], first[1]))
    return ((x + second[0]) % side, (y + second[1]) % side, (first[2] + second[2]) % 4)


def moved_star(side, star, motion):
    """Return the star, a tuple (x, y, brightness), to which the motion takes the star."""
    x, y, _ = composed(side, (star[0], star[1], 0), motion)
    return (x, y, star[2])


def inverse(side, motion):
    """Return the motion that takes all back."""
    # Half a turn more gives both parts the opposite sign.
    x, y = quarter_turned(2 - motion[2], (motion[0], motion[1]))
    return (x % side, y % side, (4 - motion[2]) % 4)
