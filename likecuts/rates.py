"""Rates: how fast THINGS and eases go when one RULE is told by more and more, or by less and less.

A course is a pair (mark, by): this RULE is told by e times by more, e from 0 on; by is 1 or -1, as a FRACTION.
"""

from likecuts.edits import behind, most_more
from likecuts.errors import CanNot
from likecuts.fractions import ZERO, least, minus, order, over, plus, times
from likecuts.layouts import gap_in
from likecuts.reasons import reasons_in
from likecuts.scales import ease_at, leg_on, leg_to, slope
from likecuts.sheets import known_mark, net_of, stands
from likecuts.towers import built, laid_out

MORE = (1, 1)
LESS = (-1, 1)
# The e that is tried first; where THINGS soon go another way it is made smaller.
TRIED = (1, 61)


def told_by_course(sheet, course, e):
    """The SHEET with the RULE of the course told by so much."""
    mark, by = course
    return behind(sheet, ("more", mark, times(by, e)))


def gone_on(layout, rates, e):
    """The tuple of the places to which THINGS come, at these rates, by e."""
    return tuple([plus(place, times(rate, e)) for place, rate in zip(layout, rates)])


def runs_of(sheet, layout, rates, course):
    """The dict from each mark to its run: what is told (far, or a SCALE), the gap, and how fast the gap grows against
    what is told."""
    mark, by = course
    runs = {}
    for tail, head, far, scale, own in net_of(sheet):
        gap, rate = gap_in(layout, (tail, head)), gap_in(rates, (tail, head))
        runs[own] = (far if scale is None else scale, gap, minus(rate, by) if own == mark else rate)
    return runs


def nearer(one, other):
    """The less of both; None is without end."""
    if one is None or other is None:
        return other if one is None else one
    return least((one, other))


def line_end(height, rate):
    """The greatest e to which height and e times rate is not below 0; 0 if there is none; None without end."""
    if order(height, ZERO) < 0:
        return ZERO
    return None if order(rate, ZERO) >= 0 else over(height, minus(ZERO, rate))


def ease_ahead(run):
    """The triple of the ease of a run, how fast it goes on, and the e to which it does so; None without end."""
    scale, gap, rate = run
    way = order(rate, ZERO)
    place = leg_on(scale, gap) if way > 0 else leg_to(scale, 0, gap)
    goes = times(rate, slope(scale[place - 1], scale[place]))
    corner = place if way > 0 else place - 1
    # At the first corner and at the last one ease goes straight on.
    straight_on = way == 0 or corner in (0, len(scale) - 1)
    return ease_at(scale, gap), goes, None if straight_on else over(minus(scale[corner][0], gap), rate)


def run_on(run, e):
    """The run as it is from e on."""
    told, gap, rate = run
    return (told, plus(gap, times(rate, e)), rate)


def eases_end(run, other, end):
    """The greatest e, at most end, to which the ease of run is at least that of other; None without end."""
    at = ZERO
    while end is None or order(at, end) < 0:
        ease, goes, turn = ease_ahead(run_on(run, at))
        own, own_goes, own_turn = ease_ahead(run_on(other, at))
        stop, leg = line_end(minus(ease, own), minus(goes, own_goes)), nearer(turn, own_turn)
        if stop is not None and (leg is None or order(stop, leg) < 0):
            return nearer(end, plus(at, stop))
        if leg is None:
            return end
        at = plus(at, leg)
    return end


def held_to(sheet, layout, rates, rings, course):
    """The greatest e to which THINGS that go from layout at these rates lie in the fairest LAYOUT, as rings tell: one
    for each counted RULE. 0 if they do so at no e above 0; None without end."""
    runs, end = runs_of(sheet, layout, rates, course), None
    for word, k in runs:
        if word == "hard":
            far, gap, rate = runs[word, k]
            end = nearer(end, line_end(minus(gap, far), rate))
    for k, ring in enumerate(rings):
        for word, at in ring:
            run = runs[word, at]
            if word == "ease":
                end = eases_end(runs["ease", k], run, end)
            elif run[1:] != (run[0], ZERO):
                return ZERO
    return end


def first_stretch(sheet, layout, course, limit):
    """The triple of the rates at which THINGS go from the fairest LAYOUT on, of a ring for each counted RULE that
    tells so, and of the e to which these do; None without end.

    limit is the greatest e for which the SHEET stands; None without end.
    """
    e = nearer(limit, TRIED)
    while True:
        told = told_by_course(sheet, course, e)
        places = built(told)[1]
        rates = tuple([over(minus(goal, place), e) for place, goal in zip(layout, places)])
        rings = reasons_in(told, places)
        end = held_to(sheet, layout, rates, rings, course)
        if end is None or order(end, ZERO) > 0:
            return rates, rings, end
        # Near enough THINGS go straight on, and no two eases change places: there it holds.
        e = times(e, e)


def goes_on(sheet, mark):
    """Whether the RULE goes on."""
    return most_more(sheet, mark) != ZERO


def goes_back(sheet, mark):
    """Whether the RULE goes back."""
    # However little less it is told, the same RINGS are fast.
    return stands(behind(sheet, ("more", mark, LESS)))


def start_on(sheet, mark):
    """What first_stretch takes, with the RULE told by more; CanNot() if it does not go on."""
    mark = known_mark(sheet, mark)
    sheet, layout = laid_out(sheet)
    if not goes_on(sheet, mark):
        raise CanNot()
    return sheet, layout, (mark, MORE), most_more(sheet, mark)


def start_back(sheet, mark):
    """What first_stretch takes, with the RULE told by less; CanNot() if it does not go back."""
    mark = known_mark(sheet, mark)
    sheet, layout = laid_out(sheet)
    if not goes_back(sheet, mark):
        raise CanNot()
    return sheet, layout, (mark, LESS), None


def turned(rates):
    """The tuple of 0 less each rate."""
    return tuple([minus(ZERO, rate) for rate in rates])


def rates_on(sheet, mark):
    """The rates on of all THINGS; CanNot() if the RULE does not go on."""
    start = start_on(sheet, mark)
    return first_stretch(*start)[0]


def rates_back(sheet, mark):
    """The rates back of all THINGS; CanNot() if the RULE does not go back."""
    start = start_back(sheet, mark)
    return turned(first_stretch(*start)[0])


def ease_rates(sheet, layout, course, limit):
    """The tuple of how fast the eases of all counted RULES go."""
    rates = first_stretch(sheet, layout, course, limit)[0]
    runs = runs_of(sheet, layout, rates, course)
    return tuple([ease_ahead(runs["ease", k])[1] for k in range(len(sheet[2]))])


def ease_rates_on(sheet, mark):
    """The rates on of the eases of all counted RULES; CanNot() if the RULE does not go on."""
    start = start_on(sheet, mark)
    return ease_rates(*start)


def ease_rates_back(sheet, mark):
    """The rates back of the eases of all counted RULES; CanNot() if the RULE does not go back."""
    start = start_back(sheet, mark)
    return turned(ease_rates(*start))


def reach(sheet, layout, course, limit):
    """The greatest e to which the SHEET stands and THINGS go at the first rates; None without end."""
    rates, _, at = first_stretch(sheet, layout, course, limit)
    while at is not None and at != limit:
        here, left = told_by_course(sheet, course, at), None if limit is None else minus(limit, at)
        more, _, end = first_stretch(here, gone_on(layout, rates, at), course, left)
        if more != rates:
            return at
        at = None if end is None else plus(at, end)
    return at


def reach_on(sheet, mark):
    """The greatest e to which the rates on hold; None if there is none; CanNot() if the RULE does not go on."""
    start = start_on(sheet, mark)
    return reach(*start)


def reach_back(sheet, mark):
    """The greatest e to which the rates back hold; None if there is none; CanNot() if the RULE does not go back."""
    start = start_back(sheet, mark)
    return reach(*start)


def is_bend(sheet, mark):
    """Whether the RULE goes on and back, and its rates on are not its rates back."""
    mark = known_mark(sheet, mark)
    sheet = laid_out(sheet)[0]
    return goes_on(sheet, mark) and goes_back(sheet, mark) and rates_on(sheet, mark) != rates_back(sheet, mark)
