"""CUTS: some THINGS moved on against all others; a LAYOUT is the fairest one if no CUT is the better for it."""

from itertools import combinations

from likecuts.errors import CanNot
from likecuts.fractions import ZERO, greatest, least, minus, order, plus
from likecuts.layouts import eases, fairer, gap_in, is_layout, spares
from likecuts.scales import gap_at, level_of
from likecuts.sheets import does_enter, does_leave, is_cut, net_of


def all_cuts(many):
    """The list of the CUTS of so many THINGS: those of the fewest THINGS first, of these the least first."""
    return [cut for size in range(1, many) for cut in combinations(range(many), size)]


def leaving(sheet, cut):
    """The set of the marks of the RULES that leave cut."""
    return tuple(sorted([arc[4] for arc in net_of(sheet) if does_leave(arc, cut)]))


def entering(sheet, cut):
    """The set of the marks of the RULES that enter cut."""
    return tuple(sorted([arc[4] for arc in net_of(sheet) if does_enter(arc, cut)]))


def least_ease(sheet, layout, marks):
    """The least ease of the counted RULES with these marks; None if there are none."""
    told = eases(sheet, layout)
    some = [told[k] for word, k in marks if word == "ease"]
    return least(some) if some else None


def least_out(sheet, layout, cut):
    """The least ease of the counted RULES that leave cut; None without any."""
    return least_ease(sheet, layout, leaving(sheet, cut))


def least_in(sheet, layout, cut):
    """The least ease of the counted RULES that enter cut; None without any."""
    return least_ease(sheet, layout, entering(sheet, cut))


def room_out(sheet, layout, cut):
    """The list of by how much the gaps of the hard RULES that leave cut are above their far."""
    return [spare for rule, spare in zip(sheet[1], spares(sheet, layout)) if does_leave(rule, cut)]


def is_like(sheet, layout, cut):
    """Whether cut is like in layout."""
    if ZERO in room_out(sheet, layout, cut):
        return True
    out, into = least_out(sheet, layout, cut), least_in(sheet, layout, cut)
    return into is None or (out is not None and order(out, into) <= 0)


def cuts_unlike(sheet, layout):
    """The list of the CUTS that are not like in layout: those of the fewest THINGS first, of these the least first."""
    return [cut for cut in all_cuts(sheet[0]) if not is_like(sheet, layout, cut)]


def unlike_cuts(sheet, layout):
    """The ascending list of the CUTS that are not like in layout."""
    return sorted(cuts_unlike(sheet, layout))


def all_like(sheet, layout):
    """Whether all CUTS are like in layout."""
    return all(is_like(sheet, layout, cut) for cut in all_cuts(sheet[0]))


def unlike_cut(sheet, layout):
    """Of the CUTS of the fewest THINGS that are not like the least; CanNot() if all are like."""
    for cut in all_cuts(sheet[0]):
        if not is_like(sheet, layout, cut):
            return cut
    raise CanNot()


def is_unlike_cut(sheet, layout, thing):
    """Whether thing is a CUT that is not like in layout."""
    return is_cut(sheet[0], thing) and not is_like(sheet, layout, thing)


def moved_on(layout, cut, far):
    """The tuple of the places with cut moved on by far, told from THING 0 again."""
    places = [plus(place, far) if thing in cut else place for thing, place in enumerate(layout)]
    return tuple([minus(place, places[0]) for place in places])


def even_step(layout, into, out):
    """How far a CUT must be moved on until a counted RULE that enters it has as much ease as one that leaves it."""
    far, back = gap_in(layout, into), gap_in(layout, out)
    level = level_of((into[2], out[2]), minus(ZERO, plus(far, back)))
    return minus(gap_at(into[2], level), far)


def even_steps(sheet, layout, cut):
    """The list of the step by which the least ease of the counted RULES that enter cut comes to be that of those that
    leave it; empty if none leaves it."""
    out = [rule for rule in sheet[2] if does_leave(rule, cut)]
    if not out:
        return []
    # The least ease coming in has come up to that going out as soon as each RULE that enters has at least as much
    # ease as some one that leaves.
    return [greatest([least([even_step(layout, own, other) for other in out])
                      for own in sheet[2] if does_enter(own, cut)])]


def best_step(sheet, layout, cut):
    """The best step of cut; CanNot() if it is not like and no RULE leaves it."""
    if is_like(sheet, layout, cut):
        return ZERO
    # Going on only helps until eases are even, and it may go on only until a hard RULE is tight.
    ends = room_out(sheet, layout, cut) + even_steps(sheet, layout, cut)
    if not ends:
        raise CanNot()
    return least(ends)


def complaint(sheet, layout):
    """The pair of unlike_cut and of layout with it moved on by its best step; CanNot() as in both."""
    cut = unlike_cut(sheet, layout)
    return cut, moved_on(layout, cut, best_step(sheet, layout, cut))


def is_complaint(sheet, layout, thing):
    """Whether thing is a COMPLAINT of layout."""
    if not isinstance(thing, tuple) or len(thing) != 2:
        return False
    cut, other = thing
    if not is_cut(sheet[0], cut) or not is_layout(sheet, other):
        return False
    far = moved_by(layout, cut, other)
    return order(far, ZERO) > 0 and moved_on(layout, cut, far) == other and fairer(sheet, other, layout) > 0


def moved_by(layout, cut, other):
    """By how much the first THING of cut moves on from layout to other against one that is not in cut."""
    behind = [thing for thing in range(len(layout)) if thing not in cut][0]
    gap = (behind, cut[0])
    return minus(gap_in(other, gap), gap_in(layout, gap))
