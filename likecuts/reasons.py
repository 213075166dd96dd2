"""REASONS: RINGS that tell why a counted RULE can have no more ease; BARS: CUTS that tell that it could."""

from likecuts.errors import CanNot, Unfit
from likecuts.layouts import binding, eases, is_layout
from likecuts.nets import all_ways, joints_of, least_way, marks_in, reached
from likecuts.sheets import does_enter, does_leave, is_cut, is_ring, must_be_counted, standing, tupled
from likecuts.towers import laid_out


def fit_layout(sheet, layout):
    """The layout, made of tuples; Unfit() if it is none of sheet."""
    layout = tupled(layout)
    if not is_layout(sheet, layout):
        raise Unfit()
    return layout


def laid_for(sheet, k):
    """The pair of sheet, made of tuples, and of its fairest LAYOUT; NoPlace(k) if it has no counted RULE k."""
    sheet, layout = laid_out(sheet)
    must_be_counted(sheet, k)
    return sheet, layout


def fit_for(sheet, layout, k):
    """The pair of sheet and layout, made of tuples; NoPlace(k), then Unfit() if layout is none of sheet."""
    sheet = standing(sheet)
    must_be_counted(sheet, k)
    return sheet, fit_layout(sheet, layout)


def arcs_for(sheet, layout, k):
    """The arcs of the RULES that a REASON of counted RULE k may have."""
    return binding(sheet, layout, eases(sheet, layout)[k])


def reason_in(sheet, layout, k):
    """The REASON of k in layout with the fewest marks, of several the least, from ("ease", k) on; None without any."""
    i, j, _ = sheet[2][k]
    way = least_way(arcs_for(sheet, layout, k), j, i)
    return None if way is None else (("ease", k),) + marks_in(way)


def reasons_in(sheet, layout):
    """The tuple of the REASON of each counted RULE in layout, as reason_in tells it."""
    return tuple([reason_in(sheet, layout, k) for k in range(len(sheet[2]))])


def reason(sheet, k):
    """The REASON of k with the fewest marks, of several the least, from ("ease", k) on."""
    sheet, layout = laid_for(sheet, k)
    return reason_in(sheet, layout, k)


def reasons(sheet):
    """The tuple of the REASON of each counted RULE."""
    sheet, layout = laid_out(sheet)
    return reasons_in(sheet, layout)


def is_reason_in(sheet, layout, k, thing):
    """Whether thing is a REASON of k in layout, both made of tuples."""
    if not is_ring(sheet, thing) or ("ease", k) not in thing:
        return False
    marks = marks_in(arcs_for(sheet, layout, k))
    return all(mark in marks for mark in thing)


def is_reason(sheet, layout, k, thing):
    """Whether thing is a REASON of k in layout."""
    sheet, layout = fit_for(sheet, layout, k)
    return is_reason_in(sheet, layout, k, thing)


def are_reasons(sheet, layout, thing):
    """Whether thing is a tuple with a REASON in layout for each counted RULE."""
    sheet = standing(sheet)
    layout = fit_layout(sheet, layout)
    if not isinstance(thing, tuple) or len(thing) != len(sheet[2]):
        return False
    return all(is_reason_in(sheet, layout, k, own) for k, own in enumerate(thing))


def unreasoned(sheet, layout):
    """The set of the numbers of the counted RULES that have no REASON in layout."""
    sheet = standing(sheet)
    told = reasons_in(sheet, fit_layout(sheet, layout))
    return tuple([k for k, ring in enumerate(told) if ring is None])


def bar_against(sheet, layout, k):
    """The BAR of k in layout with the fewest THINGS; CanNot() if there is none."""
    sheet, layout = fit_for(sheet, layout, k)
    i, j, _ = sheet[2][k]
    # No BAR can be left by a RULE that a REASON may have: it has all THINGS to which these lead.
    lot = reached(joints_of(arcs_for(sheet, layout, k)), j)
    if i in lot:
        raise CanNot()
    return tuple(sorted(lot))


def is_bar(sheet, layout, k, thing):
    """Whether thing is a BAR of k in layout."""
    sheet, layout = fit_for(sheet, layout, k)
    if not is_cut(sheet[0], thing) or not does_enter(sheet[2][k], thing):
        return False
    return not any(does_leave(arc, thing) for arc in arcs_for(sheet, layout, k))


def held_by(sheet, k):
    """The set of the marks that stand in every REASON of k."""
    sheet, layout = laid_for(sheet, k)
    i, j, _ = sheet[2][k]
    arcs = arcs_for(sheet, layout, k)
    held = [("ease", k)]
    for own in least_way(arcs, j, i):
        if least_way([arc for arc in arcs if arc != own], j, i) is None:
            held.append(own[4])
    return tuple(sorted(held))


def ways_round(sheet, layout, k):
    """The list of the marks behind ("ease", k) of each REASON of k in layout that begins with it."""
    i, j, _ = sheet[2][k]
    return all_ways(arcs_for(sheet, layout, k), j, i)


def reasons_many(sheet, k):
    """How many REASONS begin with ("ease", k)."""
    sheet, layout = laid_for(sheet, k)
    return len(ways_round(sheet, layout, k))


def shared_reasons(sheet, k):
    """The set of the numbers of the counted RULES that have a REASON in common with k, k too."""
    sheet, layout = laid_for(sheet, k)
    told = eases(sheet, layout)
    marks = [mark for way in ways_round(sheet, layout, k) for mark in way]
    # In a REASON of both neither has more ease than the other one.
    return tuple([own for own in range(len(told)) if own == k or (told[own] == told[k] and ("ease", own) in marks)])
