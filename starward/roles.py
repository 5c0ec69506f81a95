"""What the spots and stars can be at an attitude that can be."""

from starward.attitudes import appearances, check_attitude
from starward.bits import Swaps, most_held
from starward.errors import NotPossible
from starward.matching import matching
from starward.sightings import Frame, is_within, possible
from starward.sky import check_sighting


class Roles:
    """What an attitude leaves open for a sighting at two numbers. Raises NotPossible if it cannot be."""

    def __init__(self, frame, attitude, missing, false):
        self._bounds = (missing, false)
        self._table, self._sure = frame.table_and_sure(attitude)
        self._spots = frame.spots()
        self._masks = [sum([1 << spot for spot in row]) for row in self._table]
        self._places = {star: place for place, star in enumerate(self._sure)}
        # Each star can have a spot, and each sure one at once with as many sure ones as any.
        self._all = Swaps(self._masks)
        self._among_sure = Swaps([self._masks[star] for star in self._sure])
        needed = (len(self._sure) - self._among_sure.many(), len(self._spots) - self._all.many())
        if not is_within(needed, missing, false):
            raise NotPossible("the attitude cannot be at the two numbers")
        # Where more is within the bounds than is needed, one star or spot more may go without.
        self._is_tight = (needed[0] == missing, needed[1] == false)

    def is_possible(self, star, spot):
        """Return True if some explanation has the star with a spot that fits it."""
        if self._is_tight[1] and not self._all.can_hold(star, spot):
            return False
        if not self._is_tight[0]:
            return True
        if star in self._places:
            return self._among_sure.can_hold(self._places[star], spot)
        return self._among_sure.can_spare(spot)

    def is_certain(self, star, spot):
        """Return True if all explanations have the star with the spot, which some explanation has."""
        masks = list(self._masks)
        masks[star] ^= 1 << spot
        needed = (len(self._sure) - most_held([masks[number] for number in self._sure]),
                  len(self._spots) - most_held(masks))
        return not is_within(needed, self._bounds[0], self._bounds[1])

    def can_be_false(self, spot):
        """Return True if some explanation leaves the spot without a star."""
        return ((not self._is_tight[1] or self._all.can_spare(spot))
                and (not self._is_tight[0] or self._among_sure.can_spare(spot)))

    def can_be_out(self, star):
        """Return True if some explanation leaves the star without a spot."""
        if self._is_tight[1] and not self._all.can_omit(star):
            return False
        return (not self._is_tight[0] or star not in self._places
                or self._among_sure.can_omit(self._places[star]))

    def pairs(self):
        """Return the ascending list of the possible tuples (star, spot)."""
        return [(star, spot) for star, row in enumerate(self._table) for spot in row if self.is_possible(star, spot)]

    def certain_pairs(self):
        """Return the ascending list of the certain tuples (star, spot)."""
        # What all explanations have, this one has.
        told = matching(self._table, self._sure, self._spots)
        return [(star, spot) for star, spot in told if self.is_certain(star, spot)]


def _roles(sky, attitude, sighting, missing, false):
    """Return the roles at the attitude. Raise InvalidAttitude, InvalidSighting, NotPossible."""
    check_attitude(sky, attitude)
    check_sighting(sky, sighting)
    return Roles(Frame(sky, sighting), attitude, missing, false)


def pairs_at(sky, attitude, sighting, missing, false):
    """Return the tuple of the ascending list of the possible tuples (star, spot) and that of the certain ones.

    Raise InvalidAttitude, InvalidSighting, then NotPossible.
    """
    roles = _roles(sky, attitude, sighting, missing, false)
    return (roles.pairs(), roles.certain_pairs())


def false_at(sky, attitude, sighting, missing, false):
    """Return the ascending list of the spots that can be false.

    Raise InvalidAttitude, InvalidSighting, then NotPossible.
    """
    roles = _roles(sky, attitude, sighting, missing, false)
    return [spot for spot in range(len(sighting)) if roles.can_be_false(spot)]


def out_at(sky, attitude, sighting, missing, false):
    """Return the ascending list of the stars that can be out.

    Raise InvalidAttitude, InvalidSighting, then NotPossible.
    """
    roles = _roles(sky, attitude, sighting, missing, false)
    return [star for star in appearances(sky, attitude) if roles.can_be_out(star)]


def names_of(sky, sighting, missing, false):
    """Return for each spot the tuple of its names and of True if it can be false. Raise InvalidSighting."""
    frame = Frame(sky, sighting)
    names = [{} for _ in sighting]
    falses = [False for _ in sighting]
    for attitude in possible(sky, sighting, missing, false):
        roles = Roles(frame, attitude, missing, false)
        for star, spot in roles.pairs():
            names[spot][star] = True
        falses = [can or roles.can_be_false(spot) for spot, can in enumerate(falses)]
    return [(sorted(stars), can) for stars, can in zip(names, falses)]
