"""Widths: the fairest LAYOUT for each far that one hard RULE can be told by, as one TABLE of straight pieces."""

from likecuts.edits import behind
from likecuts.errors import CanNot, NoPlace, TooMuch, Unfit
from likecuts.fractions import ZERO, is_fraction, minus, order, plus, times
from likecuts.nets import farthest
from likecuts.rates import LESS, MORE, first_stretch, gone_on, held_to
from likecuts.sheets import all_hang, hard_net, is_ring, is_thing_of, loose_lot, no_room, tupled
from likecuts.towers import built

MOST_LINES = 400


def must_be_placed(sheet, place):
    """Raises NoPlace(place) if this is not the place of a hard RULE."""
    if not is_thing_of(len(sheet[1]), place):
        raise NoPlace(place)


def without(sheet, place):
    """The SHEET without this hard RULE."""
    return behind(sheet, ("out", ("hard", place)))


def has_free(sheet, place):
    """Whether the SHEET is free of this hard RULE, which there is."""
    rest = without(sheet, place)
    return no_room(rest) is None and all_hang(rest) and loose_lot(sheet) is None


def is_free(sheet, place):
    """Whether the SHEET is free of this hard RULE."""
    must_be_placed(sheet, place)
    return has_free(tupled(sheet), place)


def freed(sheet, place):
    """The sheet, made of tuples; NoPlace(place), then Unfit() if it is not free of this hard RULE."""
    must_be_placed(sheet, place)
    sheet = tupled(sheet)
    if not has_free(sheet, place):
        raise Unfit()
    return sheet


def lowest(sheet, place):
    """The least width of a SHEET that is free of this hard RULE; None if there is none."""
    i, j, _ = sheet[1][place]
    return farthest(hard_net(without(sheet, place)), ZERO, j).get(i)


def least_width(sheet, place):
    """The least width; None if there is none."""
    return lowest(freed(sheet, place), place)


def at_width(sheet, place, width):
    """The SHEET, made of tuples, with this hard RULE told by this width."""
    far = minus(minus(ZERO, width), sheet[1][place][2])
    return behind(sheet, ("more", ("hard", place), far))


def sheet_at(sheet, place, width):
    """The SHEET told by this width."""
    must_be_placed(sheet, place)
    return at_width(tupled(sheet), place, width)


def course_to(place, way):
    """The course that tells this hard RULE by greater widths (way is MORE) or by lesser ones (LESS)."""
    # A greater width is a far that is less.
    return (("hard", place), minus(ZERO, way))


def lines_by(layout, rates, width, way):
    """The lines of THINGS that lie in layout at this width, and go from there on at these rates."""
    slopes = [times(way, rate) for rate in rates]
    return tuple([(minus(own, times(width, slope)), slope) for own, slope in zip(layout, slopes)])


def walked(sheet, place, width, way):
    """The list of STRETCHES from this width on, to greater ones (way is MORE) or to lesser ones (LESS), the nearest
    one first, until there is no end; TooMuch() if they have too many unlike lines."""
    rows, many, at = [], 0, width
    layout = built(at_width(sheet, place, at))[1]
    while at is not None:
        here = at_width(sheet, place, at)
        rates, rings, end = first_stretch(here, layout, course_to(place, way), None)
        lines = lines_by(layout, rates, at, way)
        if not rows or lines != rows[-1][2]:
            many = many + 1
        if many > MOST_LINES:
            raise TooMuch()
        goal = None
        if end is not None:
            goal, layout = plus(at, times(way, end)), gone_on(layout, rates, end)
        rows.append((at, goal, lines, rings) if way == MORE else (goal, at, lines, rings))
        at = goal
    return rows


def joined(rows):
    """The rows (first, last, ..), each from where the one ahead ends, as few as can be: those alike are made one."""
    found = []
    for row in rows:
        if found and found[-1][2:] == row[2:]:
            found[-1] = (found[-1][0],) + row[1:]
        else:
            found.append(row)
    return found


def stretches(sheet, place):
    """The list of the STRETCHES of a TABLE of a SHEET that is free; TooMuch() if there are too many lines."""
    start = lowest(sheet, place)
    if start is not None:
        rows = walked(sheet, place, start, MORE)
    else:
        rows = walked(sheet, place, ZERO, LESS)
        rows.reverse()
        rows.extend(walked(sheet, place, ZERO, MORE))
    if len(joined([row[:3] for row in rows])) > MOST_LINES:
        raise TooMuch()
    return joined(rows)


def table(sheet, place):
    """A TABLE; TooMuch() if there are too many lines."""
    return tuple(stretches(freed(sheet, place), place))


def lines_of(sheet, place):
    """The list of the triples (first, last, lines), as few as can be; TooMuch() if there are too many."""
    return joined([row[:3] for row in stretches(freed(sheet, place), place)])


def bends(sheet, place):
    """The list of the widths where two triples of lines_of meet; TooMuch() if there are too many."""
    return [row[0] for row in lines_of(sheet, place)[1:]]


def laid_wide(sheet, place, width):
    """The fairest LAYOUT told by width of a SHEET that is free; None below the least one."""
    low = lowest(sheet, place)
    if low is not None and order(width, low) < 0:
        return None
    return built(at_width(sheet, place, width))[1]


def laid_at(sheet, place, width):
    """The fairest LAYOUT told by width; CanNot() below the least one."""
    layout = laid_wide(freed(sheet, place), place, width)
    if layout is None:
        raise CanNot()
    return layout


def is_end(thing):
    """Whether thing is a FRACTION or None."""
    return thing is None or is_fraction(thing)


def are_lines(many, thing):
    """Whether thing is a tuple of a line for each of so many THINGS, THING 0 always lying at 0."""
    if not isinstance(thing, tuple) or len(thing) != many or thing[0] != (ZERO, ZERO):
        return False
    return all(isinstance(line, tuple) and len(line) == 2 and all(is_fraction(own) for own in line) for line in thing)


def are_rings(sheet, thing):
    """Whether thing is a tuple with a RING for each counted RULE, its mark one of it."""
    if not isinstance(thing, tuple) or len(thing) != len(sheet[2]):
        return False
    return all(is_ring(sheet, ring) and ("ease", k) in ring for k, ring in enumerate(thing))


def is_stretch(sheet, thing):
    """Whether thing has the shape of a STRETCH."""
    if not isinstance(thing, tuple) or len(thing) != 4 or not is_end(thing[0]) or not is_end(thing[1]):
        return False
    first, last, lines, rings = thing
    if first is not None and last is not None and order(first, last) >= 0:
        return False
    return are_lines(sheet[0], lines) and are_rings(sheet, rings)


def held_from(sheet, place, stretch, at, way):
    """The e to which a STRETCH holds from this width on, to greater widths or to lesser ones; None without end."""
    lines, rings = stretch[2:]
    layout = tuple([plus(own, times(at, slope)) for own, slope in lines])
    rates = [times(way, slope) for _, slope in lines]
    return held_to(at_width(sheet, place, at), layout, rates, rings, course_to(place, way))


def holds(sheet, place, stretch):
    """Whether a STRETCH holds."""
    first, last = stretch[:2]
    if first is None:
        start = ZERO if last is None else last
        if held_from(sheet, place, stretch, start, LESS) is not None:
            return False
        return last is not None or held_from(sheet, place, stretch, start, MORE) is None
    end = held_from(sheet, place, stretch, first, MORE)
    return end is None or (last is not None and order(end, minus(last, first)) >= 0)


def is_table(sheet, place, thing):
    """Whether thing is a TABLE."""
    sheet = freed(sheet, place)
    if not isinstance(thing, tuple) or not thing or not all(is_stretch(sheet, own) for own in thing):
        return False
    firsts, lasts = [own[0] for own in thing], [own[1] for own in thing]
    if firsts != [lowest(sheet, place)] + lasts[:-1] or lasts[-1] is not None or None in lasts[:-1]:
        return False
    return all(holds(sheet, place, own) for own in thing)
