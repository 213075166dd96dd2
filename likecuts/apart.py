"""Alike for all widths: whether two SHEETS are laid alike however wide they are told, and at which widths."""

from likecuts.errors import CanNot, Unfit
from likecuts.fractions import ZERO, is_fraction, minus, order, over, plus, times
from likecuts.layouts import gap_in
from likecuts.nets import climb, farthest
from likecuts.rates import nearer
from likecuts.scales import gap_at
from likecuts.sheets import must_be_counted, net_of
from likecuts.widths import freed, laid_wide, lines_of, must_be_placed, without


def both_freed(sheet, place, other, spot):
    """Both sheets, made of tuples; NoPlace, then Unfit() if one is not free, or if they have not as many THINGS."""
    must_be_placed(sheet, place)
    must_be_placed(other, spot)
    sheet, other = freed(sheet, place), freed(other, spot)
    if sheet[0] != other[0]:
        raise Unfit()
    return sheet, other


def alike_widths(sheet, place, other, spot):
    """Whether no width is apart."""
    sheet, other = both_freed(sheet, place, other, spot)
    return lines_of(sheet, place) == lines_of(other, spot)


def first_apart(sheet, place, other, spot):
    """None if no width is apart; otherwise the pair of the greatest FRACTION below which none is, None if there is
    none, and of whether this one is."""
    sheet, other = both_freed(sheet, place, other, spot)
    rows, others = lines_of(sheet, place), lines_of(other, spot)
    if rows == others:
        return None
    start, begin = rows[0][0], others[0][0]
    if start == begin:
        # They end there, so they may lie elsewhere at once; from then on they part only where one of them bends.
        is_apart = start is not None and places_at(rows, start) != places_at(others, start)
        return (start, True) if is_apart else (first_unlike(rows, others), False)
    if start is None or begin is None:
        return None, False
    return nearer(start, begin), True


def places_at(rows, width):
    """The places that the first lines of rows tell for this width."""
    return [plus(own, times(width, slope)) for own, slope in rows[0][2]]


def first_unlike(rows, others):
    """The width from which on rows tell other lines than others, which they do; None if so at all the least widths."""
    row, own = [pair for pair in zip(rows, others) if pair[0] != pair[1]][0]
    return row[0] if row[2] != own[2] else nearer(row[1], own[1])


def is_apart_width(sheet, place, other, spot, thing):
    """Whether thing is a width that is apart."""
    sheet, other = both_freed(sheet, place, other, spot)
    return is_fraction(thing) and laid_wide(sheet, place, thing) != laid_wide(other, spot, thing)


def part_at(row, i, j, gap):
    """The pair (first, last) of the widths of one triple of lines_of at which the gap from i to j is this one; None
    if there are none."""
    first, last, lines = row
    own, slope = gap_in([line[0] for line in lines], (i, j)), gap_in([line[1] for line in lines], (i, j))
    if slope == ZERO:
        return (first, last) if own == gap else None
    width = over(minus(gap, own), slope)
    if (first is not None and order(width, first) < 0) or (last is not None and order(width, last) > 0):
        return None
    return width, width


def widths_of_ease(sheet, place, number, ease):
    """The list of the pairs (first, last) of the longest stretches of widths at which this counted RULE has just this
    ease."""
    must_be_placed(sheet, place)
    must_be_counted(sheet, number)
    i, j, scale = sheet[2][number]
    gap, found = gap_at(scale, ease), []
    for row in lines_of(sheet, place):
        part = part_at(row, i, j, gap)
        if part is None:
            continue
        if found and found[-1][1] == part[0]:
            found[-1] = (found[-1][0], part[1])
        else:
            found.append(part)
    return found


def width_for(sheet, place, ease):
    """The least width at which no counted RULE has less ease; None if none has at all widths; CanNot() if some has at
    each."""
    sheet = freed(sheet, place)
    i, j, _ = sheet[1][place]
    rest = net_of(without(sheet, place))
    if climb(rest, ease)[0] is None:
        raise CanNot()
    return farthest(rest, ease, j).get(i)
