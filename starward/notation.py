"""Written forms of skies, sightings and attitudes."""

from starward.errors import InvalidNotation, InvalidSighting
from starward.sky import MOST_STARS, Sky, check_sighting, is_camera, is_side, is_star

DIGITS = "0123456789"
DARK = "dark"


def format_sky(sky):
    """Return the written form of the sky."""
    lines = [_line("side", (sky.side,)), _line("camera", sky.camera)]
    lines.extend([_line("star", star) for star in sky.stars])
    return "\n".join(lines)


def _line(word, numbers):
    """Return the line with this word and these numbers behind it."""
    return " ".join([word, *[str(number) for number in numbers]])


def format_sighting(sighting):
    """Return the written form of the sighting."""
    if not sighting:
        return DARK
    return " ".join([_with_colons(spot) for spot in sighting])


def format_attitude(attitude):
    """Return the written form of the attitude."""
    return _with_colons(attitude)


def _with_colons(numbers):
    """Return the numbers with a colon between each two of them."""
    return ":".join([str(number) for number in numbers])


def parse_sky(text):
    """Return the sky whose written form the text is. Raise InvalidNotation."""
    lines = text.split("\n")
    side = _side_of(lines[0])
    if side is None:
        raise InvalidNotation(1)
    # A missing camera is told by the number of the line on which it had to stand.
    camera = _camera_of(side, lines[1]) if len(lines) > 1 else None
    if camera is None:
        raise InvalidNotation(2)
    stars = []
    for number, line in enumerate(lines[2:], start=3):
        star = _star_of(side, line)
        if star is None or len(stars) == MOST_STARS or (stars and star <= stars[-1]):
            raise InvalidNotation(number)
        stars.append(star)
    return Sky(side, stars, camera)


def _side_of(line):
    """Return the side that the line tells, or None if such a line cannot stand first."""
    numbers = _numbers_of("side", line)
    if numbers is None or len(numbers) != 1 or not is_side(numbers[0]):
        return None
    return numbers[0]


def _camera_of(side, line):
    """Return the camera that the line tells, or None if such a line cannot stand behind this side."""
    camera = _numbers_of("camera", line)
    if camera is None or not is_camera(side, camera):
        return None
    return camera


def _star_of(side, line):
    """Return the star that the line tells, or None if such a line can stand nowhere behind this side."""
    star = _numbers_of("star", line)
    if star is None or not is_star(side, star):
        return None
    return star


def _numbers_of(word, line):
    """Return the tuple of the numbers behind the word, or None if the line is not the word and numbers."""
    first, *words = line.split(" ")
    if first != word:
        return None
    return _all_read(words)


def _all_read(words):
    """Return the tuple of the integers whose written forms the words are, or None if one of them is none."""
    numbers = tuple([read_number(word) for word in words])
    if None in numbers:
        return None
    return numbers


def read_sighting(sky, text):
    """Return the sighting of the sky whose written form the text is. Raise InvalidSighting."""
    if text == DARK:
        return ()
    spots = [_all_read(word.split(":")) for word in text.split(" ")]
    if None in spots:
        raise InvalidSighting("no written form of a sighting")
    sighting = tuple(spots)
    check_sighting(sky, sighting)
    return sighting


def read_number(text):
    """Return the integer whose written form the string is, or None if it is none."""
    digits = text[1:] if text.startswith("-") else text
    if not digits or (digits[0] == "0" and text != "0"):
        return None
    # Not by int(): it takes other forms, too, and refuses very many digits.
    total = 0
    for digit in digits:
        if digit not in DIGITS:
            return None
        total = 10 * total + ord(digit) - ord("0")
    return total if digits == text else -total
