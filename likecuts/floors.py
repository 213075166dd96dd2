"""Floors: LAYOUTS in whole points, that are on an average just the LAYOUT they come from."""

from likecuts.errors import Unfit
from likecuts.fractions import ZERO, ascending, floor_of, is_fraction, minus, order, plus, times, total, whole
from likecuts.layouts import fairer, is_layout
from likecuts.sheets import tupled
from likecuts.towers import laid_out

ONE = (1, 1)


def are_whole(places):
    """Whether all these FRACTIONS are whole."""
    return all(place[1] == 1 for place in places)


def is_whole(sheet):
    """Whether all far of sheet are whole."""
    return are_whole([rule[2] for rule in sheet[1]])


def must_be_whole(sheet):
    """Raises Unfit() if some far of sheet is not whole."""
    if not is_whole(sheet):
        raise Unfit()


def floor_by(layout, t):
    """The floor of layout at t."""
    return tuple([whole(floor_of(plus(place, t))) for place in layout])


def steps_of(layout):
    """The tuple of those t from which on the floor of layout is another one, from the least to the greatest."""
    # A place goes up by t as soon as this is what it is short of the next whole number; 0 is short of nothing.
    return tuple(ascending([ZERO] + [minus(whole(floor_of(place) + 1), place) for place in layout if place[1] != 1]))


def rows_of(layout):
    """The list of the pairs (floor, share) of layout, as t goes up."""
    steps = steps_of(layout)
    return [(floor_by(layout, t), minus(end, t)) for t, end in zip(steps, steps[1:] + (ONE,))]


def floor_at(sheet, layout, t):
    """The floor of layout at t."""
    must_be_whole(sheet)
    return floor_by(layout, t)


def floor_steps(sheet, layout):
    """The tuple of those t from which on the floor is another one, from the least to the greatest, 0 first."""
    must_be_whole(sheet)
    return steps_of(layout)


def floors(sheet, layout):
    """The list of the pairs (floor, share), as t goes up."""
    must_be_whole(sheet)
    return rows_of(layout)


def is_floor(sheet, layout, thing):
    """Whether thing is a floor of layout."""
    must_be_whole(sheet)
    return is_layout(sheet, thing) and any(thing == own for own, _ in rows_of(layout))


def has_share(sheet, thing):
    """Whether thing may stand in a SPREAD: a pair of a LAYOUT in whole points and of a FRACTION above 0."""
    if not isinstance(thing, tuple) or len(thing) != 2:
        return False
    own, share = thing
    return is_layout(sheet, own) and are_whole(own) and is_fraction(share) and order(share, ZERO) > 0


def mean_of(rows, many):
    """The tuple of the sum of the places of each of so many THINGS in rows, each times the share."""
    return tuple([total([times(own[thing], share) for own, share in rows]) for thing in range(many)])


def is_mean(sheet, layout, thing):
    """Whether thing is a SPREAD whose mean is layout."""
    if not isinstance(thing, tuple) or not all(has_share(sheet, own) for own in thing):
        return False
    return total([share for _, share in thing]) == ONE and mean_of(thing, sheet[0]) == tupled(layout)


def fairest_of(sheet, layout):
    """Of the floors of layout than which none is fairer that of the least t."""
    best = floor_by(layout, ZERO)
    for own, _ in rows_of(layout):
        if fairer(sheet, own, best) > 0:
            best = own
    return best


def fairest_floor(sheet, layout):
    """Of the floors of layout than which none of them is fairer that of the least t."""
    must_be_whole(sheet)
    return fairest_of(sheet, layout)


def floored(sheet):
    """fairest_floor of the fairest LAYOUT; NoRoom(ring), Loose(lot), Afloat(lot), then Unfit()."""
    sheet, layout = laid_out(sheet)
    must_be_whole(sheet)
    return fairest_of(sheet, layout)
