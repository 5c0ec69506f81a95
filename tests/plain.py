"""What the tests share: plain searches that follow the words of the document, and ways to look at calls."""

from copy import deepcopy
from functools import cache
from itertools import combinations, product
from random import Random

from starward.attitudes import attitudes
from starward.errors import SkyError
from starward.sky import Sky


def raised(call, *given):
    """Return the error of the program that a call raises, or None if it returns."""
    try:
        call(*given)
    except SkyError as error:
        return error
    return None


def what_is_raised(call, *given):
    """Return the class of the error that a call raises and a dict of its attributes, or None if it returns."""
    error = raised(call, *given)
    if error is None:
        return None
    return (type(error), dict(vars(error)))


def told_of_sky(sky):
    """Return all that a sky tells of itself."""
    return (sky.side, sky.stars, sky.camera, sky.reach, sky.blur, sky.glare, sky.limit)


def changed_by(call, sky, *given):
    """Return True if a call changes its sky or something else that it is given, also if it raises."""
    was = (told_of_sky(sky), deepcopy(given))
    raised(call, sky, *given)
    return (told_of_sky(sky), given) != was


def all_cameras(side):
    """Return all cameras that a sky with this side can have."""
    return [(reach, blur, glare, limit)
            for reach, blur, glare, limit in product(range(5), range(3), range(3), range(1, 10))
            if blur <= reach and 2 * (reach + blur) + 1 <= side]


def some_sky(seed, side, camera, many):
    """Return a sky with so many stars, the same one each time for the same arguments."""
    chance = Random(seed)
    stars = [(x, y, brightness) for x in range(side) for y in range(side) for brightness in range(1, 10)]
    return Sky(side, chance.sample(stars, many), camera)


def turned_once(pair):
    """Return the pair turned by one quarter turn."""
    return (-pair[1], pair[0])


def turned_often(times, pair):
    """Return the pair turned by so many quarter turns, not less than none."""
    for _ in range(times):
        pair = turned_once(pair)
    return pair


def plain_offset(sky, attitude, star):
    """Return the only offset within the bounds that leads from the attitude to the star, or None."""
    bound = sky.reach + sky.blur
    found = []
    for aside in product(range(-bound, bound + 1), repeat=2):
        x, y = turned_often(attitude[2], aside)
        if ((attitude[0] + x - star[0]) % sky.side, (attitude[1] + y - star[1]) % sky.side) == (0, 0):
            found.append(aside)
    assert len(found) < 2
    return found[0] if found else None


def plain_seen(sky, attitude):
    """Return the numbers of the stars that can be seen."""
    return [number for number, star in enumerate(sky.stars)
            if plain_offset(sky, attitude, star) is not None and star[2] >= sky.limit - sky.glare]


def plain_sure(sky, attitude):
    """Return the numbers of the sure stars."""
    bound = sky.reach - sky.blur
    sure = []
    for number in plain_seen(sky, attitude):
        dx, dy = plain_offset(sky, attitude, sky.stars[number])
        if max(abs(dx), abs(dy)) <= bound and sky.stars[number][2] >= sky.limit + sky.glare:
            sure.append(number)
    return sure


def plain_fits(sky, attitude, star, spot):
    """Return True if the spot fits the star."""
    aside = plain_offset(sky, attitude, star)
    return (aside is not None and abs(aside[0] - spot[0]) <= sky.blur and abs(aside[1] - spot[1]) <= sky.blur
            and abs(star[2] - spot[2]) <= sky.glare)


def plain_spots(sky):
    """Return the ascending list of all spots of the sky's camera."""
    parts = range(-sky.reach, sky.reach + 1)
    return list(product(parts, parts, range(sky.limit, 9 + sky.glare + 1)))


@cache
def plain_links(sky, one, other):
    """Return a table with the stars that some spot fits at the other attitude while it fits the star at the first."""
    spots = plain_spots(sky)
    table = []
    for star in sky.stars:
        fitting = [spot for spot in spots if plain_fits(sky, one, star, spot)]
        table.append([number for number, second in enumerate(sky.stars)
                      if any(plain_fits(sky, other, second, spot) for spot in fitting)])
    return table


def all_matchings(table):
    """Return all matchings of the table, each an ascending list."""
    found = [[]]
    for row, columns in enumerate(table):
        for told in list(found):
            taken = [column for _, column in told]
            found.extend([[*told, (row, column)] for column in columns if column not in taken])
    return found


def all_parts(lot):
    """Return all parts of an ascending lot, each one ascending."""
    return [list(part) for many in range(len(lot) + 1) for part in combinations(lot, many)]


def plain_lack(table, lot):
    """Return how many rows the lot has above all their partners."""
    return len(lot) - len({column for row in lot for column in table[row]})


def plain_table(sky, attitude, sighting):
    """Return the table of the attitude for the sighting."""
    return [[place for place, spot in enumerate(sighting) if plain_fits(sky, attitude, star, spot)]
            for star in sky.stars]


def left_out(told, sure, many):
    """Return how many of the sure stars and how many of so many spots a matching leaves out."""
    stars = [star for star, _ in told]
    return (len([star for star in sure if star not in stars]), many - len(told))


def some_sighting(seed, sky, many):
    """Return a sighting of so many spots, the same one each time; some of them may be equal."""
    return tuple(sorted(Random(seed).choices(plain_spots(sky), k=many)))


def no_attitudes(side):
    """Return tuples of integers that are no attitudes of a sky with this side."""
    return [(side, 0, 0), (0, side, 0), (0, 0, 4), (-1, 0, 0), (0, -1, 0), (0, 0, -1), (), (0, 0), (0, 0, 0, 0)]


def no_commands(side):
    """Return tuples of integers that are no commands for a sky with this side."""
    return [(side, 0, 0), (-side, 0, 0), (0, side, 0), (0, -side, 0), (0, 0, 4), (0, 0, -1), (), (0, 0), (0, 0, 0, 0)]


def no_sightings(sky):
    """Return tuples of tuples of integers that are no sightings of a sky with a reach of at least 1."""
    beyond, dark = sky.reach + 1, sky.limit - 1
    return [((beyond, 0, 9),), ((-beyond, 0, 9),), ((0, beyond, 9),), ((0, -beyond, 9),), ((0, 0, dark),),
            ((0, 0, 10 + sky.glare),), ((0, 0),), ((0, 0, 9, 9),), ((),), ((1, 0, 9), (0, 0, 9)), ((0, 0, 9),) * 61]


def wrong_calls(given, wrongs):
    """Yield tuples of arguments and what they raise, a class and the attributes of the error.

    `given` are right arguments. `wrongs` are, in the order in which they are looked at, tuples of the place of an
    argument and a list of tuples of a wrong one and what it raises. Each wrong one comes alone and with wrong ones
    behind it.
    """
    for turn, (place, bads) in enumerate(wrongs):
        for bad, expected in bads:
            told = list(given)
            told[place] = bad
            yield (told, expected)
            for later, worse in wrongs[turn + 1:]:
                told = list(told)
                told[later] = worse[0][0]
                yield (told, expected)


class CallsTest:
    """Tests of calls that a test case lists, for the `SKY` that it names.

    `CALLS` are tuples of a function, right arguments behind the sky, and wrong ones as in `wrong_calls`.
    """

    CALLS = []
    SKY = None

    def test_errors_in_order(self):
        for call, given, wrongs in self.CALLS:
            for told, expected in wrong_calls(given, wrongs):
                self.assertEqual(what_is_raised(call, self.SKY, *told), expected, call)
            self.assertIsNone(what_is_raised(call, self.SKY, *given))

    def test_nothing_is_changed(self):
        for call, given, wrongs in self.CALLS:
            self.assertFalse(changed_by(call, self.SKY, *given), call)
            for told, _ in wrong_calls(given, wrongs[-1:]):
                self.assertFalse(changed_by(call, self.SKY, *told), call)


def plain_led(sky, attitude, command, slip=0):
    """Return the ascending list of the attitudes to which a command with slips leads."""
    led = set()
    for more in product(range(-slip, slip + 1), repeat=2):
        x, y = turned_often(attitude[2], (command[0] + more[0], command[1] + more[1]))
        led.add(((attitude[0] + x) % sky.side, (attitude[1] + y) % sky.side, (attitude[2] + command[2]) % 4))
    return sorted(led)


def plain_course(sky, beginning, row):
    """Return the course of the row."""
    course = [beginning]
    for command in row:
        course.extend(plain_led(sky, course[-1], command))
    return course


def plain_far(sky, one, other, slack):
    """Return True if two attitudes are far at the slack."""
    steps = [min((a - b) % sky.side, (b - a) % sky.side) for a, b in zip(one[:2], other[:2])]
    return one[2] != other[2] or max(steps) > slack


def some_row(seed, side, many):
    """Return a row of so many commands, the same one each time for the same arguments."""
    chance = Random(seed)
    return [(chance.randrange(1 - side, side), chance.randrange(1 - side, side), chance.randrange(4))
            for _ in range(many)]


def far_pairs(sky, slack):
    """Return the ascending list of the pairs of far attitudes, the first one less than the second one."""
    return [(one, other) for one, other in product(attitudes(sky), repeat=2)
            if one < other and plain_far(sky, one, other, slack)]


@cache
def plain_unlikeness(sky, one, other):
    """Return the unlikeness of two attitudes, by a plain search through all lots of their sure stars."""
    lacks = [plain_lack(plain_links(sky, *pair), lot)
             for pair in ((one, other), (other, one)) for lot in all_parts(plain_sure(sky, pair[0]))]
    return max(lacks)
