"""What attitudes need if the errors of the camera are others than its own."""

from starward.attitudes import attitudes, check_attitude
from starward.sightings import Frame, evidence_in, is_within
from starward.sky import check_sighting, is_camera


def allowed(sky):
    """Return the ascending list of the tuples (blur, glare) that are allowed for the sky."""
    return [(blur, glare) for blur in range(3) for glare in range(3)
            if is_camera(sky.side, (sky.reach, blur, glare, sky.limit))]


def _frame_with(sky, sighting, blur, glare):
    """Return the frame of the sighting with other errors. Raise InvalidSky if they are not allowed."""
    # The spots stay as they are, so some may be none of the other camera.
    return Frame(sky.with_camera((sky.reach, blur, glare, sky.limit)), sighting)


def need_with(sky, attitude, sighting, blur, glare):
    """Return what the attitude needs with this blur and glare.

    Raise InvalidAttitude, InvalidSighting, then InvalidSky if they are not allowed.
    """
    check_attitude(sky, attitude)
    check_sighting(sky, sighting)
    return _frame_with(sky, sighting, blur, glare).need(attitude)


def error_steps(sky, attitude, sighting, missing, false):
    """Return the ascending list of the error steps. Raise InvalidAttitude, then InvalidSighting."""
    check_attitude(sky, attitude)
    check_sighting(sky, sighting)
    can = [(blur, glare) for blur, glare in allowed(sky)
           if is_within(_frame_with(sky, sighting, blur, glare).need(attitude), missing, false)]
    return [(blur, glare) for blur, glare in can if (blur - 1, glare) not in can and (blur, glare - 1) not in can]


def least_blur(sky, sighting, missing, false, glare):
    """Return the least blur with which some attitude can be and the list of those that can, a tuple, or None.

    Raise InvalidSighting, then InvalidSky if the glare is not allowed.
    """
    check_sighting(sky, sighting)
    for blur in sorted({each for each, _ in allowed(sky)}):
        frame = _frame_with(sky, sighting, blur, glare)
        can = [attitude for attitude in attitudes(sky) if is_within(frame.need(attitude), missing, false)]
        if can:
            return (blur, can)
    return None


def blur_evidence(sky, attitude, sighting, missing, false, blur, glare):
    """Return evidence as it is with this blur and glare.

    Raise InvalidAttitude, InvalidSighting, then InvalidSky if they are not allowed.
    """
    check_attitude(sky, attitude)
    check_sighting(sky, sighting)
    return evidence_in(_frame_with(sky, sighting, blur, glare), attitude, missing, false)
