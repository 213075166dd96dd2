"""Idle RULES: hard ones that follow from others, and RULES without which all THINGS lie as they do with them."""

from likecuts.edits import behind
from likecuts.errors import CanNot
from likecuts.fractions import ZERO, minus, order, plus
from likecuts.layouts import is_layout
from likecuts.levels import eased
from likecuts.nets import farthest, least_way, marks_in
from likecuts.reasons import arcs_for, is_reason_in
from likecuts.sheets import (all_hang, hard_net, is_way, known_mark, marks_of, must_have_room, ring_far, standing,
                             stands, tupled)
from likecuts.towers import built, fairest, laid_out
from likecuts.widths import must_be_placed, without

ONE = (1, 1)


def roomy(sheet, k):
    """The sheet, made of tuples; NoRoom(ring) if it has a RING without room, then NoPlace(k)."""
    sheet = tupled(sheet)
    must_have_room(sheet)
    must_be_placed(sheet, k)
    return sheet


def arcs_but(sheet, k):
    """The arcs of the hard RULES but this one."""
    return [arc for arc in hard_net(sheet) if arc[4] != ("hard", k)]


def gap_without(sheet, k):
    """The least gap that hard RULE k has in LAYOUTS of the SHEET without it; None if there is no least one."""
    i, j, _ = sheet[1][k]
    return farthest(arcs_but(sheet, k), ZERO, i).get(j)


def is_enough(gap, far):
    """Whether gap, maybe None, is at least far."""
    return gap is not None and order(gap, far) >= 0


def is_idle(sheet, k):
    """Whether hard RULE k is idle."""
    return is_enough(gap_without(sheet, k), sheet[1][k][2])


def idle_hard(sheet):
    """The set of the numbers of the hard RULES that are idle, each by itself."""
    sheet = tupled(sheet)
    must_have_room(sheet)
    return tuple([k for k in range(len(sheet[1])) if is_idle(sheet, k)])


def one_arc_more(arcs, sums):
    """The dict from each node to the greatest sum of what arcs tell on the way by one of them to a node of sums, added
    to what stands there."""
    found = {}
    for tail, head, far, _, _ in arcs:
        if head in sums and not is_enough(found.get(tail), plus(far, sums[head])):
            found[tail] = plus(far, sums[head])
    return found


def rows_to(arcs, i, j, far):
    """The list of dicts from each node to the greatest sum of a way to j of no arcs, of one, of two .. up to those by
    which i comes to at least far, which there are."""
    rows = [{j: ZERO}]
    while not is_enough(rows[-1].get(i), far):
        rows.append(one_arc_more(arcs, rows[-1]))
    return rows


def bypass(sheet, k):
    """Of the BYPASSES of hard RULE k with the fewest marks the least; CanNot() if there is none."""
    sheet = roomy(sheet, k)
    if not is_idle(sheet, k):
        raise CanNot()
    at, j, left = sheet[1][k]
    arcs, marks = arcs_but(sheet, k), []
    # What came to a THING twice would be no less far without that RING, as none is without room, but shorter.
    for sums in reversed(rows_to(arcs, at, j, left)[:-1]):
        some = [arc for arc in arcs if arc[0] == at and arc[1] in sums
                and is_enough(plus(arc[2], sums[arc[1]]), left)]
        _, at, far, _, mark = some[0]
        left = minus(left, far)
        marks.append(mark)
    return tuple(marks)


def slip(sheet, k):
    """A LAYOUT of the SHEET without hard RULE k that is none of sheet; CanNot() if there is none."""
    sheet = roomy(sheet, k)
    if is_idle(sheet, k):
        raise CanNot()
    i, j, far = sheet[1][k]
    gap = gap_without(sheet, k)
    back = minus(ZERO, minus(far, ONE) if gap is None else gap)
    # With j no farther behind i than this, which others leave it, no RING is without room.
    hard = without(sheet, k)[1] + ((j, i, back),)
    return eased((sheet[0], hard, ()), ZERO)


def is_bypass(sheet, k, thing):
    """Whether thing is a BYPASS of hard RULE k."""
    sheet = roomy(sheet, k)
    i, j, far = sheet[1][k]
    return is_way(sheet, i, j, thing) and ("hard", k) not in thing and is_enough(ring_far(sheet, thing), far)


def is_slip(sheet, k, thing):
    """Whether thing is a SLIP of hard RULE k."""
    sheet = roomy(sheet, k)
    return is_layout(without(sheet, k), thing) and not is_layout(sheet, thing)


def taken_out(sheet, mark):
    """The SHEET without the RULE of this mark."""
    return behind(sheet, ("out", mark))


def laid_without(sheet, mark):
    """The fairest LAYOUT of the SHEET without mark; Loose(lot), Afloat(lot) if that does not stand."""
    sheet = standing(sheet)
    return fairest(taken_out(sheet, known_mark(sheet, mark)))


def laid_with(sheet, mark):
    """The triple of sheet, its fairest LAYOUT and the mark, made of tuples; NoPlace(mark) if there is no such RULE."""
    sheet, layout = laid_out(sheet)
    return sheet, layout, known_mark(sheet, mark)


def does_count(sheet, layout, mark):
    """Whether the RULE of this mark is felt; layout is the fairest one of sheet."""
    rest = taken_out(sheet, mark)
    return not stands(rest) or built(rest)[1] != layout


def is_felt(sheet, mark):
    """Whether the RULE of this mark is felt."""
    sheet, layout, mark = laid_with(sheet, mark)
    return does_count(sheet, layout, mark)


def felt_marks(sheet):
    """The set of the marks of the RULES that are felt."""
    sheet, layout = laid_out(sheet)
    return tuple(sorted([mark for mark in marks_of(sheet) if does_count(sheet, layout, mark)]))


def reason_without(sheet, layout, k, mark):
    """A REASON of counted RULE k in layout that has not this mark; None without any."""
    i, j, _ = sheet[2][k]
    way = least_way([arc for arc in arcs_for(sheet, layout, k) if arc[4] != mark], j, i)
    return None if way is None else (("ease", k),) + marks_in(way)


def unfelt_witness(sheet, mark):
    """A WITNESS that mark is not felt; CanNot() if there is none."""
    sheet, layout, mark = laid_with(sheet, mark)
    if not all_hang(taken_out(sheet, mark)):
        raise CanNot()
    told = []
    for k in range(len(sheet[2])):
        own = None if mark == ("ease", k) else reason_without(sheet, layout, k, mark)
        if own is None and mark != ("ease", k):
            raise CanNot()
        told.append(own)
    return tuple(told)


def does_tell(sheet, layout, mark, k, thing):
    """Whether thing may stand for counted RULE k in a WITNESS that mark is not felt."""
    if mark == ("ease", k):
        return thing is None
    return is_reason_in(sheet, layout, k, thing) and mark not in thing


def is_unfelt_witness(sheet, mark, thing):
    """Whether thing is a WITNESS that mark is not felt."""
    sheet, layout, mark = laid_with(sheet, mark)
    if not isinstance(thing, tuple) or len(thing) != len(sheet[2]) or not all_hang(taken_out(sheet, mark)):
        return False
    return all(does_tell(sheet, layout, mark, k, own) for k, own in enumerate(thing))


def leaned(sheet):
    """The pair of the marks, as in sheet, of the RULES that are left, and of the SHEET of these."""
    sheet, layout = laid_out(sheet)
    left, marks = sheet, []
    # From the last to the first: what is taken out changes no number of those that are still to come.
    for mark in reversed(marks_of(sheet)):
        if does_count(left, layout, mark):
            marks.append(mark)
        else:
            left = taken_out(left, mark)
    return tuple(sorted(marks)), left


def lean_marks(sheet):
    """The set of the marks, as in sheet, of the RULES that are left if each is taken out that is not felt then."""
    return leaned(sheet)[0]


def lean_sheet(sheet):
    """The SHEET of the RULES of lean_marks, in order."""
    return leaned(sheet)[1]
