"""SCALES: tuples of corners (gap, ease), both going up, with straight lines between and beyond them."""

from likecuts.errors import Unfit
from likecuts.fractions import ZERO, ascending, is_fraction, minus, order, over, plus, times, total


def is_scale(thing):
    """Whether thing is a SCALE."""
    if not isinstance(thing, tuple) or len(thing) < 2:
        return False
    if not all(is_corner(corner) for corner in thing):
        return False
    return all(goes_up(thing[at - 1], thing[at]) for at in range(1, len(thing)))


def is_corner(thing):
    """Whether thing is a pair of FRACTIONS."""
    return isinstance(thing, tuple) and len(thing) == 2 and is_fraction(thing[0]) and is_fraction(thing[1])


def goes_up(corner, later):
    """Whether both gap and ease are greater at later."""
    return order(later[0], corner[0]) > 0 and order(later[1], corner[1]) > 0


def slope(corner, later):
    """By how much ease grows for each 1 of gap between two corners."""
    return over(minus(later[1], corner[1]), minus(later[0], corner[0]))


def along(corners, at):
    """What the corners tell for at: on the straight line of the two that it lies between, or is nearest to."""
    place = 1
    while place < len(corners) - 1 and order(at, corners[place][0]) > 0:
        place = place + 1
    low, high = corners[place - 1], corners[place]
    return plus(low[1], times(minus(at, low[0]), slope(low, high)))


def ease_at(scale, gap):
    """The ease that scale tells for gap."""
    return along(scale, gap)


def gap_at(scale, ease):
    """The gap for which scale tells ease."""
    return along([(own, gap) for gap, own in scale], ease)


def plain_scale(share):
    """The SCALE by which ease is gap / share; Unfit() if share is not above 0."""
    if order(share, ZERO) <= 0:
        raise Unfit()
    return ((ZERO, ZERO), (tuple(share), (1, 1)))


def shifted(scale, by):
    """The SCALE that tells for gap + by what scale tells for gap."""
    return tuple([(plus(gap, by), tuple(ease)) for gap, ease in scale])


def rate_at(scale, gap):
    """The pair of how much ease grows for each 1 of gap just below gap, and just above it."""
    last = len(scale) - 1
    below = 1
    while below < last and order(gap, scale[below][0]) > 0:
        below = below + 1
    above = below
    while above < last and order(gap, scale[above][0]) >= 0:
        above = above + 1
    return slope(scale[below - 1], scale[below]), slope(scale[above - 1], scale[above])


def are_alike(scale, other):
    """Whether both tell the same ease for every gap."""
    # Neither bends but at a gap of these; and as each has two corners, both run straight from the first of these
    # gaps to the second, and from the last but one to the last, so they are alike beyond them, too.
    gaps = [corner[0] for corner in scale] + [corner[0] for corner in other]
    return all(ease_at(scale, gap) == ease_at(other, gap) for gap in gaps)


def trimmed(scale):
    """The SCALE without the corners, but the first and the last, at which ease goes straight on."""
    corners = [(tuple(gap), tuple(ease)) for gap, ease in scale]
    last = len(corners) - 1
    return tuple([corners[at] for at in range(last + 1) if at in (0, last) or bends(corners, at)])


def bends(corners, at):
    """Whether ease does not go straight on at the corner of this place, which is not the first, not the last."""
    return slope(corners[at - 1], corners[at]) != slope(corners[at], corners[at + 1])


def added_up(scales):
    """The list of the corners (gap, ease) at the eases of all corners: the gaps of all scales there, added up."""
    eases = ascending([corner[1] for scale in scales for corner in scale])
    return [(total([gap_at(scale, ease) for scale in scales]), ease) for ease in eases]


def level_of(scales, far):
    """The ease at which the gaps of all scales and far come to 0 in all."""
    return along(added_up(scales), minus(ZERO, far))


def together(scales):
    """The SCALE that tells for each gap the ease at which the gaps of all scales come to this gap."""
    return trimmed(added_up(scales))
