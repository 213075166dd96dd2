"""TOWERS: THINGS put together, ring by ring, the least ease first; what they tell is the fairest LAYOUT."""

from likecuts.errors import Unfit
from likecuts.fractions import ZERO, is_fraction, minus, order, plus
from likecuts.layouts import eases, is_layout
from likecuts.nets import climb, comes_to, fast_lots, is_closed, least_ring, marks_in, told_far
from likecuts.sheets import are_marks, net_of, standing, tupled


class Lots:
    """The LOTS of a SHEET, each called by its least THING, and the lead of each THING from that one."""

    def __init__(self, sheet):
        self.arcs = net_of(sheet)
        self.called = list(range(sheet[0]))
        self.leads = [ZERO for _ in range(sheet[0])]

    def between(self):
        """The arcs of the RULES between unlike LOTS, from one LOT to the other."""
        arcs = []
        for i, j, far, scale, mark in self.arcs:
            if self.called[i] != self.called[j]:
                shift = minus(self.leads[i], self.leads[j])
                arcs.append((self.called[i], self.called[j], plus(far, shift), scale, mark))
        return arcs

    def hard_between(self):
        """The arcs of the hard RULES between unlike LOTS."""
        return [arc for arc in self.between() if arc[3] is None]

    def open_marks(self):
        """The list of the marks of the open counted RULES."""
        return [arc[4] for arc in self.between() if arc[3] is not None]

    def make_one(self, places):
        """Makes LOTS one: those that are called by the keys of places, each lying at its place."""
        first = min(list(places))
        for thing, lot in enumerate(list(self.called)):
            if lot in places:
                self.called[thing] = first
                self.leads[thing] = plus(self.leads[thing], minus(places[lot], places[first]))

    def put_ring_together(self, ring, ease):
        """Puts together the LOTS of a ring of arcs between them that comes to 0 at this ease."""
        places, place = {}, ZERO
        for arc in ring:
            places[arc[0]] = place
            place = plus(place, told_far(arc, ease))
        self.make_one(places)

    def put_fast_together(self):
        """Puts together ROUNDS of hard RULES that come to 0, as long as there are some.

        Returns False if a ROUND of hard RULES comes to more than 0, so that no LAYOUT has these leads.
        """
        arcs = self.hard_between()
        heights = climb(arcs, ZERO)[0]
        if heights is None:
            return False
        for lot in fast_lots(arcs, heights):
            self.make_one({own: heights[own] for own in lot})
        return True

    def as_sets(self):
        """The ascending list of the LOTS, sets of THINGS."""
        found = {}
        for thing, lot in enumerate(self.called):
            found.setdefault(lot, []).append(thing)
        return [tuple(found[lot]) for lot in sorted(found)]


def first_found(sheet):
    """The LOTS of a SHEET ahead of the first STAGE."""
    lots = Lots(sheet)
    lots.put_fast_together()
    return lots


def built(sheet):
    """The pair of a TOWER of a SHEET that stands, and of the LAYOUT that it tells."""
    lots = first_found(sheet)
    stages = []
    found = least_ring(lots.between())
    while found is not None:
        level, ring = found
        stages.append((level, marks_in(ring)))
        lots.put_ring_together(ring, level)
        lots.put_fast_together()
        found = least_ring(lots.between())
    return tuple(stages), tuple(lots.leads)


def laid_out(sheet):
    """The pair of sheet, made of tuples, and of its fairest LAYOUT; NoRoom(ring), Loose(lot), Afloat(lot) if it does
    not stand."""
    sheet = standing(sheet)
    return sheet, built(sheet)[1]


def fairest(sheet):
    """The fairest LAYOUT."""
    return laid_out(sheet)[1]


def tower(sheet):
    """A TOWER."""
    return built(standing(sheet))[0]


def is_stage(sheet, thing):
    """Whether thing is a pair of a FRACTION and of a tuple of marks."""
    return isinstance(thing, tuple) and len(thing) == 2 and is_fraction(thing[0]) and are_marks(sheet, thing[1])


def round_of(lots, level, marks):
    """The ring of the arcs between LOTS with these marks if they are a ROUND with a counted RULE that comes to 0 at
    this level; None otherwise."""
    arcs = {arc[4]: arc for arc in lots.between()}
    if not all(mark in arcs for mark in marks):
        return None
    ring = [arcs[mark] for mark in marks]
    if not is_closed(ring) or not any(mark[0] == "ease" for mark in marks):
        return None
    return ring if comes_to(ring, level) == ZERO else None


def told_by_stages(sheet, stages):
    """The leads that stages tell if they are a TOWER; None otherwise."""
    lots, ahead = first_found(sheet), []
    for at, (level, marks) in enumerate(stages):
        ring = round_of(lots, level, marks)
        if ring is None or (at > 0 and order(level, stages[at - 1][0]) < 0):
            return None
        ahead.append((level, lots.open_marks()))
        lots.put_ring_together(ring, level)
        if not lots.put_fast_together():
            return None
    leads = tuple(lots.leads)
    if lots.open_marks() or not is_layout(sheet, leads):
        return None
    told = eases(sheet, leads)
    for level, marks in ahead:
        if not all(order(told[mark[1]], level) >= 0 for mark in marks):
            return None
    return leads


def told_leads(sheet, thing):
    """The leads that thing tells if it is a TOWER of a SHEET that stands; None otherwise."""
    if not isinstance(thing, tuple) or not all(is_stage(sheet, stage) for stage in thing):
        return None
    return told_by_stages(sheet, thing)


def is_tower(sheet, thing):
    """Whether thing is a TOWER of sheet."""
    return told_leads(standing(sheet), thing) is not None


def laid_by(sheet, tower):
    """The LAYOUT that a TOWER tells; Unfit() if it is none of sheet."""
    leads = told_leads(standing(sheet), tupled(tower))
    if leads is None:
        raise Unfit()
    return leads


def levels_of(sheet):
    """The list of the unlike levels of the TOWERS of sheet, each one greater than the one ahead."""
    levels = []
    for level, _ in tower(sheet):
        if level not in levels:
            levels.append(level)
    return levels


def first_lots(sheet):
    """The ascending list of the LOTS ahead of the first STAGE."""
    return first_found(standing(sheet)).as_sets()
