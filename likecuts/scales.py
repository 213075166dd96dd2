"""SCALES: tuples of corners (gap, ease), both going up, with straight lines between and beyond them."""

from likecuts.errors import Unfit
from likecuts.fractions import ZERO, ascending, is_fraction, minus, order, over, plus, times, total


def is_scale(thing):
    """Whether thing is a SCALE."""
    if not isinstance(thing, tuple) or len(thing) < 2:
        return False
    if not all(is_corner(corner) for corner in thing):
        return False
    return all(goes_up(thing[at - 1], thing[at]) for at in range(1, len(thing)))


def is_corner(thing):
    """Whether thing is a pair of FRACTIONS."""
    return isinstance(thing, tuple) and len(thing) == 2 and is_fraction(thing[0]) and is_fraction(thing[1])


def goes_up(corner, later):
    """Whether both gap and ease are greater at later."""
    return order(later[0], corner[0]) > 0 and order(later[1], corner[1]) > 0


def slope(corner, later):
    """By how much ease grows for each 1 of gap between two corners."""
    return over(minus(later[1], corner[1]), minus(later[0], corner[0]))


def leg_to(corners, side, at):
    """The place of the corner at the end of the straight line on which at lies, which is a gap (side 0) or an ease."""
    low, high = 1, len(corners) - 1
    while low < high:
        middle = (low + high) // 2
        if order(at, corners[middle][side]) > 0:
            low = middle + 1
        else:
            high = middle
    return low


def straight(low, high, at):
    """What the straight line through two pairs tells for at."""
    return plus(low[1], times(minus(at, low[0]), slope(low, high)))


def ease_at(scale, gap):
    """The ease that scale tells for gap."""
    place = leg_to(scale, 0, gap)
    return straight(scale[place - 1], scale[place], gap)


def gap_at(scale, ease):
    """The gap for which scale tells ease."""
    place = leg_to(scale, 1, ease)
    (low, base), (high, top) = scale[place - 1], scale[place]
    return straight((base, low), (top, high), ease)


def plain_scale(share):
    """The SCALE by which ease is gap / share; Unfit() if share is not above 0."""
    if order(share, ZERO) <= 0:
        raise Unfit()
    return ((ZERO, ZERO), (tuple(share), (1, 1)))


def shifted(scale, by):
    """The SCALE that tells for gap + by what scale tells for gap."""
    return tuple([(plus(gap, by), tuple(ease)) for gap, ease in scale])


def leg_on(scale, gap):
    """The place of the corner at the end of the straight line on which ease goes on just above gap."""
    place = leg_to(scale, 0, gap)
    is_turn = place < len(scale) - 1 and order(gap, scale[place][0]) == 0
    return place + 1 if is_turn else place


def rate_at(scale, gap):
    """The pair of how much ease grows for each 1 of gap just below gap, and just above it."""
    below, above = leg_to(scale, 0, gap), leg_on(scale, gap)
    return slope(scale[below - 1], scale[below]), slope(scale[above - 1], scale[above])


def are_alike(scale, other):
    """Whether both tell the same ease for every gap."""
    # Neither bends but at a gap of these; and as each has two corners, both run straight from the first of these
    # gaps to the second, and from the last but one to the last, so they are alike beyond them, too.
    gaps = [corner[0] for corner in scale] + [corner[0] for corner in other]
    return all(ease_at(scale, gap) == ease_at(other, gap) for gap in gaps)


def trimmed(scale):
    """The SCALE without the corners, but the first and the last, at which ease goes straight on."""
    corners = [(tuple(gap), tuple(ease)) for gap, ease in scale]
    last = len(corners) - 1
    return tuple([corners[at] for at in range(last + 1) if at in (0, last) or bends(corners, at)])


def bends(corners, at):
    """Whether ease does not go straight on at the corner of this place, which is not the first, not the last."""
    return slope(corners[at - 1], corners[at]) != slope(corners[at], corners[at + 1])


def corner_eases(scales):
    """The list of the eases of all corners, from the least to the greatest."""
    return ascending([corner[1] for scale in scales for corner in scale])


def added_up(scales, ease):
    """The corner (gap, ease) at this ease: the gaps of all scales there, added up."""
    return total([gap_at(scale, ease) for scale in scales]), ease


def level_of(scales, far):
    """The ease at which the gaps of all scales and far come to 0 in all."""
    eases, goal = corner_eases(scales), minus(ZERO, far)
    low, high = 1, len(eases) - 1
    while low < high:
        middle = (low + high) // 2
        if order(goal, added_up(scales, eases[middle])[0]) > 0:
            low = middle + 1
        else:
            high = middle
    return straight(added_up(scales, eases[low - 1]), added_up(scales, eases[low]), goal)


def together(scales):
    """The SCALE that tells for each gap the ease at which the gaps of all scales come to this gap."""
    return trimmed([added_up(scales, ease) for ease in corner_eases(scales)])
