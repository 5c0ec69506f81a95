"""Skies, and what spots and sightings their cameras tell."""

from starward.errors import InvalidMotion, InvalidSighting, InvalidSky, StarTaken, UnknownStar
from starward.places import is_pose, moved_star

MOST_STARS = 20
MOST_SPOTS = 60
BRIGHTEST = 9


def is_side(side):
    """Return True if a sky can have this side."""
    return 4 <= side <= 9


def is_star(side, star):
    """Return True if the tuple can be a star of a sky with this side."""
    if len(star) != 3:
        return False
    x, y, brightness = star
    return 0 <= x < side and 0 <= y < side and 1 <= brightness <= BRIGHTEST


def is_camera(side, camera):
    """Return True if a sky with this side can have this camera."""
    if len(camera) != 4:
        return False
    reach, blur, glare, limit = camera
    if not (0 <= reach <= 4 and 0 <= blur <= 2 and 0 <= glare <= 2 and 1 <= limit <= BRIGHTEST):
        return False
    return blur <= reach and 2 * (reach + blur) + 1 <= side


def _check_sky(side, stars, camera):
    """Raise InvalidSky if a rule of skies is broken."""
    if not is_side(side):
        raise InvalidSky("no side of a sky")
    for star in stars:
        if not is_star(side, star):
            raise InvalidSky("a star breaks a rule")
    if len(set(stars)) < len(stars):
        raise InvalidSky("a star stands twice")
    if len(stars) > MOST_STARS:
        raise InvalidSky("too many stars")
    if not is_camera(side, camera):
        raise InvalidSky("the camera breaks a rule")


class Sky:
    """A sky of stars with a camera. It does not change."""

    def __init__(self, side, stars, camera):
        _check_sky(side, stars, camera)
        self._side = side
        self._stars = tuple(sorted(stars))
        self._camera = camera

    @property
    def side(self):
        """The side of the sky."""
        return self._side

    @property
    def stars(self):
        """The ascending tuple of the stars."""
        return self._stars

    @property
    def camera(self):
        """The tuple (reach, blur, glare, limit)."""
        return self._camera

    @property
    def reach(self):
        """The reach of the camera."""
        return self._camera[0]

    @property
    def blur(self):
        """The blur of the camera."""
        return self._camera[1]

    @property
    def glare(self):
        """The glare of the camera."""
        return self._camera[2]

    @property
    def limit(self):
        """The limit of the camera."""
        return self._camera[3]

    def star_at(self, number):
        """Return the star with the number. Raise UnknownStar if there is none."""
        if not 0 <= number < len(self._stars):
            raise UnknownStar(number)
        return self._stars[number]

    def number_of(self, star):
        """Return the number of the star, or None if it is none of the sky."""
        if star not in self._stars:
            return None
        return self._stars.index(star)

    def with_star(self, star):
        """Return the sky with one star more. Raise StarTaken, then InvalidSky."""
        if star in self._stars:
            raise StarTaken(star)
        return Sky(self._side, [*self._stars, star], self._camera)

    def without_star(self, number):
        """Return the sky without the star with the number. Raise UnknownStar."""
        left_out = self.star_at(number)
        return Sky(self._side, [star for star in self._stars if star != left_out], self._camera)

    def only(self, numbers):
        """Return the sky with just the stars with these numbers. Raise UnknownStar."""
        chosen = [self.star_at(number) for number in numbers]
        return Sky(self._side, [star for star in self._stars if star in chosen], self._camera)

    def with_camera(self, camera):
        """Return the sky with another camera. Raise InvalidSky."""
        return Sky(self._side, list(self._stars), camera)

    def moved(self, motion):
        """Return the sky with all stars moved. Raise InvalidMotion."""
        if not is_pose(self._side, motion):
            raise InvalidMotion(motion)
        return Sky(self._side, [moved_star(self._side, star, motion) for star in self._stars], self._camera)

    def same_as(self, other):
        """Return True if the other sky has the same side, stars and camera."""
        return self._side == other.side and self._stars == other.stars and self._camera == other.camera


def is_spot(sky, spot):
    """Return True if the tuple is a spot of the sky's camera."""
    if len(spot) != 3:
        return False
    dx, dy, brightness = spot
    return abs(dx) <= sky.reach and abs(dy) <= sky.reach and sky.limit <= brightness <= BRIGHTEST + sky.glare


def check_sighting(sky, sighting):
    """Raise InvalidSighting if the tuple is no sighting of the sky's camera."""
    for spot in sighting:
        if not is_spot(sky, spot):
            raise InvalidSighting("a spot breaks a rule")
    if list(sighting) != sorted(sighting):
        raise InvalidSighting("the spots are not ascending")
    if len(sighting) > MOST_SPOTS:
        raise InvalidSighting("too many spots")


def is_sighting(sky, sighting):
    """Return True if the tuple is a sighting of the sky's camera, otherwise False."""
    try:
        check_sighting(sky, sighting)
    except InvalidSighting:
        return False
    return True


def check_sightings(sky, sightings):
    """Raise InvalidSighting for the first tuple of the list that is no sighting."""
    for sighting in sightings:
        check_sighting(sky, sighting)
