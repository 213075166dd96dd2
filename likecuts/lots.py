"""Lots: THINGS that are one at an ease, held to one another by tight hard RULES and counted ones of no more ease."""

from likecuts.errors import CanNot
from likecuts.fractions import ascending, order
from likecuts.layouts import binding, eases
from likecuts.nets import joints_of, least_way, marks_in, mutual_lots, reached
from likecuts.sheets import does_leave, is_cut, is_path, must_be_things
from likecuts.towers import laid_out


def lots_in(sheet, layout, ease):
    """The ascending list of the lots at this ease in layout; at each ease less than all if it is None."""
    return mutual_lots(list(range(sheet[0])), joints_of(binding(sheet, layout, ease)))


def lots_at(sheet, ease):
    """The ascending list of the lots at ease."""
    sheet, layout = laid_out(sheet)
    return lots_in(sheet, layout, ease)


def lot_tree(sheet):
    """The tuple of the pairs (ease, lots): of None, then of each ease at which the lots are others than just below."""
    sheet, layout = laid_out(sheet)
    tree = [(None, tuple(lots_in(sheet, layout, None)))]
    for ease in ascending(eases(sheet, layout)):
        lots = tuple(lots_in(sheet, layout, ease))
        if lots != tree[-1][1]:
            tree.append((ease, lots))
    return tuple(tree)


def tie(sheet, i, j):
    """The least ease at which i and j are one; None if they are so at every ease."""
    tree = lot_tree(sheet)
    must_be_things(sheet, (i, j))
    # At the greatest ease all THINGS are one.
    return [ease for ease, lots in tree if any(i in lot and j in lot for lot in lots)][0]


def arcs_at(sheet, numbers, ease):
    """The arcs of the RULES that bind at ease in the fairest LAYOUT; NoPlace for the first number that is no THING."""
    sheet, layout = laid_out(sheet)
    must_be_things(sheet, numbers)
    return binding(sheet, layout, ease)


def tied_by(sheet, i, j, ease):
    """A pair of WAYS at ease, from i to j and back; CanNot() if they are not one at ease."""
    arcs = arcs_at(sheet, (i, j), ease)
    there, back = least_way(arcs, i, j), least_way(arcs, j, i)
    if there is None or back is None:
        raise CanNot()
    return marks_in(there), marks_in(back)


def is_tied_by(sheet, i, j, ease, thing):
    """Whether thing is a pair of WAYS at ease, from i to j and back."""
    marks = marks_in(arcs_at(sheet, (i, j), ease))
    if not isinstance(thing, tuple) or len(thing) != 2:
        return False
    there, back = thing
    return is_path(sheet, i, j, there) and is_path(sheet, j, i, back) and all(mark in marks for mark in there + back)


def parting_cut(sheet, i, j, ease):
    """A CUT that has one of i and j, and that no RULE leaves that binds at ease; CanNot() if they are one at ease."""
    joints = joints_of(arcs_at(sheet, (i, j), ease))
    for start, goal in ((i, j), (j, i)):
        lot = reached(joints, start)
        if goal not in lot:
            return tuple(sorted(lot))
    raise CanNot()


def is_parting_cut(sheet, i, j, ease, thing):
    """Whether thing is a CUT that has one of i and j, and that no RULE leaves that binds at ease."""
    arcs = arcs_at(sheet, (i, j), ease)
    if not is_cut(sheet[0], thing) or (i in thing) == (j in thing):
        return False
    return not any(does_leave(arc, thing) for arc in arcs)


def rules_within(rules, lot):
    """The tuple of the RULES both THINGS of which are in lot, with these THINGS numbered by their places in lot."""
    within = [(i, j, told) for i, j, told in rules if i in lot and j in lot]
    return tuple([(lot.index(i), lot.index(j), told) for i, j, told in within])


def lot_alone(sheet, i, ease):
    """The pair of the lot at ease that has i, and of the SHEET of its THINGS, with the RULES among them, the counted
    ones of at most this ease."""
    sheet, layout = laid_out(sheet)
    must_be_things(sheet, (i,))
    lot = [own for own in lots_in(sheet, layout, ease) if i in own][0]
    counted = [rule for rule, own in zip(sheet[2], eases(sheet, layout)) if order(own, ease) <= 0]
    return lot, (len(lot), rules_within(sheet[1], lot), rules_within(counted, lot))
