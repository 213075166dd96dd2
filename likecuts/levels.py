"""Levels: how much ease all counted RULES can have, and the RINGS that bar more."""

from likecuts.errors import CanNot, Unfit
from likecuts.fractions import ZERO, minus, order
from likecuts.layouts import eases, is_layout
from likecuts.nets import climb, comes_to, farthest, least_ring, level_of_ring, marks_in
from likecuts.scales import ease_at
from likecuts.sheets import is_ring, must_be_counted, must_be_things, must_have_room, net_of, tupled


def arcs_of(sheet, marks):
    """The arcs of the RULES with these marks."""
    told = {arc[4]: arc for arc in net_of(sheet)}
    return [told[mark] for mark in marks]


def has_counted(marks):
    """Whether some mark is that of a counted RULE."""
    return any(mark[0] == "ease" for mark in marks)


def ring_level(sheet, ring):
    """The ease at which a RING just closes; Unfit() if it has no counted RULE."""
    ring = tupled(ring)
    if not has_counted(ring):
        raise Unfit()
    return level_of_ring(arcs_of(sheet, ring))


def eased(sheet, ease):
    """A LAYOUT in which no ease is less; CanNot() if there is none."""
    heights = climb(net_of(sheet), ease)[0]
    if heights is None:
        raise CanNot()
    start = heights.get(0, ZERO)
    # A THING without RULES may lie anywhere.
    return tuple([minus(heights.get(own, start), start) for own in range(sheet[0])])


def is_eased(sheet, ease, thing):
    """Whether thing is a LAYOUT in which no ease is less."""
    return is_layout(sheet, thing) and all(order(own, ease) >= 0 for own in eases(sheet, thing))


def bar_to(sheet, ease):
    """A BAR to ease; CanNot() if there is none."""
    ring = climb(net_of(sheet), ease)[1]
    if ring is None:
        raise CanNot()
    return marks_in(ring)


def is_bar_to(sheet, ease, thing):
    """Whether thing is a BAR to ease."""
    # Gaps go up with ease: a RING with a counted RULE comes to more than 0 at each ease above its level.
    return is_ring(sheet, thing) and order(comes_to(arcs_of(sheet, thing), ease), ZERO) > 0


def top_found(sheet):
    """The pair of the least level of all RINGS with a counted RULE, and such a RING; None without any."""
    must_have_room(sheet)
    return least_ring(net_of(sheet))


def top_level(sheet):
    """The greatest ease to which there is no BAR; None if no RING has a counted RULE."""
    found = top_found(sheet)
    return None if found is None else found[0]


def top_ring(sheet):
    """A RING whose level is the top level; None if no RING has a counted RULE."""
    found = top_found(sheet)
    return None if found is None else marks_in(found[1])


def is_top_ring(sheet, thing):
    """Whether thing is a RING with a counted RULE, of the least level of all, no hard RING being without room."""
    if not is_ring(sheet, thing) or not has_counted(thing):
        return False
    level = ring_level(sheet, thing)
    # What comes to more than 0 at this level has a lower one, or is a hard RING without room.
    return climb(net_of(sheet), level)[1] is None


def must_be_eased(sheet, ease):
    """Raises CanNot() if there is a BAR to ease."""
    if climb(net_of(sheet), ease)[0] is None:
        raise CanNot()


def eased_gap(sheet, ease, i, j):
    """The least gap from i to j in LAYOUTS eased so much; None if there is no least one."""
    must_be_things(sheet, (i, j))
    must_be_eased(sheet, ease)
    return farthest(net_of(sheet), ease, i).get(j)


def most_ease(sheet, ease, k):
    """The greatest ease of counted RULE k in LAYOUTS eased so much; None if there is no greatest one."""
    must_be_counted(sheet, k)
    must_be_eased(sheet, ease)
    i, j, scale = sheet[2][k]
    back = farthest(net_of(sheet), ease, j).get(i)
    return None if back is None else ease_at(scale, minus(ZERO, back))
