"""LAYOUTS: tuples of the places of the THINGS of a SHEET, that of THING 0 being 0, that keep its hard RULES."""

from likecuts.fractions import ZERO, is_fraction, least, minus, order, plus, put_in_order, times
from likecuts.scales import ease_at
from likecuts.sheets import known_mark, net_of, told_by


def gap_in(layout, rule):
    """The gap of a RULE: the place of its j less that of its i."""
    return minus(layout[rule[1]], layout[rule[0]])


def is_layout(sheet, thing):
    """Whether thing is a LAYOUT of sheet."""
    if not isinstance(thing, tuple) or len(thing) != sheet[0]:
        return False
    if not all(is_fraction(place) for place in thing) or thing[0] != ZERO:
        return False
    return all(order(gap_in(thing, rule), rule[2]) >= 0 for rule in sheet[1])


def gap_of(sheet, layout, mark):
    """The gap of the RULE with this mark; NoPlace(mark) if there is none."""
    return gap_in(layout, told_by(sheet, known_mark(sheet, mark)))


def gaps(sheet, layout):
    """The pair of the tuples of the gaps of the hard RULES, and of the counted ones."""
    return tuple([gap_in(layout, rule) for rule in sheet[1]]), tuple([gap_in(layout, rule) for rule in sheet[2]])


def spares(sheet, layout):
    """The tuple of by how much the gap of each hard RULE is above its far."""
    return tuple([minus(gap_in(layout, rule), rule[2]) for rule in sheet[1]])


def tight(sheet, layout):
    """The set of the marks of the hard RULES whose gap is their far."""
    return tuple([("hard", k) for k, spare in enumerate(spares(sheet, layout)) if spare == ZERO])


def eases(sheet, layout):
    """The tuple of the eases of the counted RULES."""
    return tuple([ease_at(rule[2], gap_in(layout, rule)) for rule in sheet[2]])


def ease_row(sheet, layout):
    """The tuple of the eases of the counted RULES, from the least to the greatest."""
    return tuple(put_in_order(eases(sheet, layout)))


def least_eased(sheet, layout):
    """The set of the marks of the counted RULES whose ease is the least; () without any."""
    told = eases(sheet, layout)
    if not told:
        return ()
    lowest = least(told)
    return tuple([("ease", k) for k, ease in enumerate(told) if ease == lowest])


def binding(sheet, layout, ease):
    """The arcs of the RULES that bind at this ease: tight hard ones, and counted ones of at most this ease; without
    any counted ones if ease is None."""
    bound = list(tight(sheet, layout))
    if ease is not None:
        bound += [("ease", k) for k, own in enumerate(eases(sheet, layout)) if order(own, ease) <= 0]
    return [arc for arc in net_of(sheet) if arc[4] in bound]


def fairer(sheet, one, other):
    """1 if one is fairer than other, -1 if other is than one, 0 if they are eased alike."""
    for mine, yours in zip(ease_row(sheet, one), ease_row(sheet, other)):
        if mine != yours:
            return order(mine, yours)
    return 0


def mix_of(sheet, one, other, share):
    """The tuple of the places that lie share of the way from those in one to those in other."""
    return tuple([plus(place, times(share, minus(goal, place))) for place, goal in zip(one, other)])
