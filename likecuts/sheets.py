"""SHEETS: triples (n, hard, counted) of how many THINGS there are, of hard RULES, and of counted ones."""

from likecuts.errors import Afloat, CanNot, Loose, NoPlace, NoRoom, TooMuch
from likecuts.fractions import ZERO, is_fraction, is_number, minus, order, plus, total
from likecuts.nets import (all_ways, climb, farthest, fast_lots, is_closed, joints_of, least_way, marks_in, mutual_lots,
                           reached, turned_round)
from likecuts.scales import is_scale

WORDS = ("hard", "ease")
MOST_RINGS = 2000


def tupled(told):
    """The same value with a tuple for each list, at any depth."""
    return tuple([tupled(own) for own in told]) if isinstance(told, (list, tuple)) else told


def is_triple(thing):
    """Whether thing is a triple."""
    return isinstance(thing, tuple) and len(thing) == 3


def is_thing_of(many, thing):
    """Whether thing is one of so many THINGS."""
    return is_number(thing) and 0 <= thing < many


def is_rule(many, thing):
    """Whether thing is a triple of two unlike ones of so many THINGS and of one thing more."""
    return is_triple(thing) and is_thing_of(many, thing[0]) and is_thing_of(many, thing[1]) and thing[0] != thing[1]


def is_sheet(thing):
    """Whether thing is a SHEET."""
    if not is_triple(thing):
        return False
    many, hard, counted = thing
    if not is_number(many) or many < 1 or not isinstance(hard, tuple) or not isinstance(counted, tuple):
        return False
    if not all(is_rule(many, rule) and is_fraction(rule[2]) for rule in hard):
        return False
    return all(is_rule(many, rule) and is_scale(rule[2]) for rule in counted)


def marks_of(sheet):
    """The tuple of the marks of all RULES, hard ones first."""
    hard = [("hard", k) for k in range(len(sheet[1]))]
    return tuple(hard + [("ease", k) for k in range(len(sheet[2]))])


def is_mark(sheet, thing):
    """Whether thing is the mark of a RULE of this SHEET."""
    if not isinstance(thing, tuple) or len(thing) != 2 or thing[0] not in WORDS:
        return False
    return is_thing_of(len(sheet[1 + WORDS.index(thing[0])]), thing[1])


def told_by(sheet, mark):
    """The RULE with this mark, which there is."""
    return sheet[1 + WORDS.index(mark[0])][mark[1]]


def known_mark(sheet, mark):
    """The mark, made a tuple; NoPlace(mark) if there is no RULE with it."""
    mark = tupled(mark)
    if not is_mark(sheet, mark):
        raise NoPlace(mark)
    return mark


def rule_of(sheet, mark):
    """The RULE with this mark; NoPlace(mark) if there is none."""
    return tupled(told_by(sheet, known_mark(sheet, mark)))


def hard_net(sheet):
    """The arcs of the hard RULES."""
    return [(i, j, far, None, ("hard", k)) for k, (i, j, far) in enumerate(sheet[1])]


def counted_net(sheet):
    """The arcs of the counted RULES."""
    return [(i, j, ZERO, scale, ("ease", k)) for k, (i, j, scale) in enumerate(sheet[2])]


def net_of(sheet):
    """The arcs of all RULES, hard ones first."""
    return hard_net(sheet) + counted_net(sheet)


def are_marks(sheet, thing):
    """Whether thing is a tuple of marks of this SHEET."""
    return isinstance(thing, tuple) and all(is_mark(sheet, mark) for mark in thing)


def is_ring(sheet, thing):
    """Whether thing is a RING of this SHEET."""
    return are_marks(sheet, thing) and is_closed([told_by(sheet, mark) for mark in thing])


def rings(sheet):
    """The ascending list of the RINGS that begin with their least mark; TooMuch() if there are more than 2,000."""
    found = []
    for i, j, _, _, first in net_of(sheet):
        # Each RING is found but once if it is looked for from its least mark on.
        behind = [arc for arc in net_of(sheet) if arc[4] > first]
        found = found + [(first,) + way for way in all_ways(behind, j, i, MOST_RINGS)]
        if len(found) > MOST_RINGS:
            raise TooMuch()
    return sorted(found)


def ring_far(sheet, ring):
    """The sum of far of the hard RULES of a RING."""
    return total([told_by(sheet, mark)[2] for mark in ring if mark[0] == "hard"])


def no_room(sheet):
    """A RING without room; None if there is none."""
    ring = climb(hard_net(sheet), ZERO)[1]
    return None if ring is None else marks_in(ring)


def are_hard(marks):
    """Whether all marks are those of hard RULES."""
    return all(mark[0] == "hard" for mark in marks)


def is_no_room(sheet, thing):
    """Whether thing is a RING without room."""
    return is_ring(sheet, thing) and are_hard(thing) and order(ring_far(sheet, thing), ZERO) > 0


def loose_lot(sheet):
    """A CUT that some counted RULE enters and no RULE leaves; None if there is none."""
    joints = joints_of(net_of(sheet))
    for i, j, _ in sheet[2]:
        lot = reached(joints, j)
        if i not in lot:
            return tuple(sorted(lot))
    return None


def is_lot(many, thing):
    """Whether thing is a set of some of so many THINGS."""
    if not isinstance(thing, tuple) or not all(is_thing_of(many, own) for own in thing):
        return False
    return all(thing[at - 1] < thing[at] for at in range(1, len(thing)))


def is_cut(many, thing):
    """Whether thing is a CUT of so many THINGS."""
    return is_lot(many, thing) and 0 < len(thing) < many


def does_leave(rule, cut):
    """Whether a RULE, or an arc, leaves a CUT."""
    return rule[0] in cut and rule[1] not in cut


def does_enter(rule, cut):
    """Whether a RULE, or an arc, enters a CUT."""
    return rule[0] not in cut and rule[1] in cut


def is_loose_lot(sheet, thing):
    """Whether thing is a CUT that some counted RULE enters and no RULE leaves."""
    if not is_cut(sheet[0], thing) or any(does_leave(arc, thing) for arc in net_of(sheet)):
        return False
    return any(does_enter(rule, thing) for rule in sheet[2])


def must_be_things(sheet, numbers):
    """Raises NoPlace(number) for the first number that is no THING."""
    for number in numbers:
        if not is_thing_of(sheet[0], number):
            raise NoPlace(number)


def must_be_counted(sheet, k):
    """Raises NoPlace(k) if k is not the number of a counted RULE."""
    if not is_thing_of(len(sheet[2]), k):
        raise NoPlace(k)


def must_have_room(sheet):
    """Raises NoRoom(ring) if there is a RING without room."""
    ring = no_room(sheet)
    if ring is not None:
        raise NoRoom(ring)


def hard_gap(sheet, i, j):
    """The sum of far of a CHAIN from i to j; None if there is no way."""
    must_be_things(sheet, (i, j))
    must_have_room(sheet)
    return farthest(hard_net(sheet), ZERO, i).get(j)


def chain(sheet, i, j):
    """Of the CHAINS from i to j with the fewest marks the least; CanNot() if there is no way."""
    must_be_things(sheet, (i, j))
    must_have_room(sheet)
    gaps = farthest(turned_round(hard_net(sheet)), ZERO, j)
    if i not in gaps:
        raise CanNot()
    # Only RULES that lose nothing of the greatest sum to j stand in a CHAIN.
    arcs = [arc for arc in hard_net(sheet) if arc[1] in gaps and gaps[arc[0]] == plus(arc[2], gaps[arc[1]])]
    return marks_in(least_way(arcs, i, j))


def is_path(sheet, i, j, thing):
    """Whether thing is a tuple of marks of RULES that lead from i to j, each on from the one ahead, and come to no
    THING twice."""
    if not are_marks(sheet, thing):
        return False
    rules = [told_by(sheet, mark) for mark in thing]
    things = [i] + [rule[1] for rule in rules]
    return [rule[0] for rule in rules] == things[:-1] and things[-1] == j and len(set(things)) == len(things)


def is_way(sheet, i, j, thing):
    """Whether thing is a way from i to j."""
    return is_path(sheet, i, j, thing) and are_hard(thing)


def is_chain(sheet, i, j, thing):
    """Whether thing is a CHAIN from i to j."""
    gap = hard_gap(sheet, i, j)
    return is_way(sheet, i, j, thing) and ring_far(sheet, thing) == gap


def spans(sheet):
    """The tuple of the pairs of the least place and the greatest one that each THING has in LAYOUTS, or None."""
    must_have_room(sheet)
    ahead = farthest(hard_net(sheet), ZERO, 0)
    back = farthest(turned_round(hard_net(sheet)), ZERO, 0)
    return tuple([(ahead.get(j), minus(ZERO, back[j]) if j in back else None) for j in range(sheet[0])])


def hung_pairs(sheet):
    """The list of pairs of THINGS, each there and back, along which all hang together that do; no RING may be without
    room."""
    hard = hard_net(sheet)
    fast = fast_lots(hard, climb(hard, ZERO)[0])
    pairs = joints_of(counted_net(sheet)) + [(lot[0], own) for lot in fast for own in lot]
    return pairs + [(j, i) for i, j in pairs]


def hung_lots(sheet):
    """The set of the sets of THINGS that hang together."""
    must_have_room(sheet)
    return tuple(mutual_lots(list(range(sheet[0])), hung_pairs(sheet)))


def hung_with_0(sheet):
    """The dict of True for each THING that hangs together with 0, and 0; no RING may be without room."""
    return reached(hung_pairs(sheet), 0)


def all_hang(sheet):
    """Whether all THINGS hang together; no RING may be without room."""
    return len(hung_with_0(sheet)) == sheet[0]


def floating_lot(sheet):
    """The set of the THINGS that do not hang together with 0; no RING may be without room."""
    hung = hung_with_0(sheet)
    return tuple([own for own in range(sheet[0]) if own not in hung])


def is_floating_lot(sheet, thing):
    """Whether thing is the set, not (), of the THINGS that do not hang together with 0; no RING may be without room."""
    if not is_cut(sheet[0], thing):
        return False
    hung = hung_with_0(sheet)
    return len(thing) + len(hung) == sheet[0] and not any(own in hung for own in thing)


def stands(sheet):
    """Whether sheet stands."""
    return no_room(sheet) is None and loose_lot(sheet) is None and all_hang(sheet)


def standing(sheet):
    """sheet, made of tuples; NoRoom(ring), Loose(lot), Afloat(lot) if it does not stand."""
    sheet = tupled(sheet)
    must_have_room(sheet)
    lot = loose_lot(sheet)
    if lot is not None:
        raise Loose(lot)
    lot = floating_lot(sheet)
    if lot:
        raise Afloat(lot)
    return sheet
