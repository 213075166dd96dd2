"""PARTS: sets of THINGS that hang on two of them alone, and so lie in the whole as they lie by themselves."""

from likecuts.errors import CanNot, Unfit
from likecuts.fractions import ZERO, minus
from likecuts.layouts import gap_in
from likecuts.lots import rules_within
from likecuts.nets import joints_of, mutual_lots
from likecuts.sheets import is_lot, is_mark, must_be_things, net_of, told_by, tupled
from likecuts.towers import fairest


def must_be_two(sheet, a, b):
    """Raises NoPlace(number) for the first of a and b that is no THING, then Unfit() if they are one."""
    must_be_things(sheet, (a, b))
    if a == b:
        raise Unfit()


def is_lot_with(many, a, b, thing):
    """Whether thing is a set of so many THINGS, a and b among them and at least one more."""
    return is_lot(many, thing) and len(thing) > 2 and a in thing and b in thing


def does_bar(rule, a, b, lot):
    """Whether a RULE, or an arc, is one of a THING of lot, but a and b, and of one that is not in lot."""
    for own, other in ((rule[0], rule[1]), (rule[1], rule[0])):
        if own in lot and own not in (a, b) and other not in lot:
            return True
    return False


def bars_to(sheet, a, b, lot):
    """The list of the marks of the RULES that bar lot from being a PART of a and b."""
    return [arc[4] for arc in net_of(sheet) if does_bar(arc, a, b, lot)]


def is_part(sheet, a, b, thing):
    """Whether thing is a PART of a and b."""
    must_be_two(sheet, a, b)
    return is_lot_with(sheet[0], a, b, thing) and not bars_to(sheet, a, b, thing)


def least_parts(sheet, a, b):
    """The ascending list of the least PARTS of a and b."""
    must_be_two(sheet, a, b)
    others = [own for own in range(sheet[0]) if own not in (a, b)]
    # What lies on the far side of a or of b need not come along.
    joints = [(i, j) for i, j in joints_of(net_of(sheet)) if i in others and j in others]
    lots = mutual_lots(others, joints + [(j, i) for i, j in joints])
    return sorted([tuple(sorted(lot + (a, b))) for lot in lots])


def parting_pairs(sheet):
    """The ascending list of the pairs (a, b), a below b, that have two least PARTS or more."""
    pairs = [(a, b) for b in range(sheet[0]) for a in range(b)]
    return sorted([(a, b) for a, b in pairs if len(least_parts(sheet, a, b)) > 1])


def part_bar(sheet, a, b, lot):
    """The least mark of a RULE of one of lot, but a and b, and of one that is not in lot; CanNot() without any."""
    must_be_two(sheet, a, b)
    marks = bars_to(sheet, a, b, lot)
    if not marks:
        raise CanNot()
    return min(marks)


def is_part_bar(sheet, a, b, lot, thing):
    """Whether thing is the mark of a RULE of one of lot, but a and b, and of one that is not in lot."""
    must_be_two(sheet, a, b)
    return is_mark(sheet, thing) and does_bar(told_by(sheet, thing), a, b, lot)


def part_names(a, part):
    """The tuple of the THINGS of part in the order in which they are told anew: a, then the others, ascending."""
    return (a,) + tuple([own for own in part if own != a])


def just_so(a, b, far):
    """The two hard RULES by which b lies just far behind a."""
    return ((a, b, tuple(far)), (b, a, minus(ZERO, far)))


def must_be_part(sheet, a, b, part):
    """Raises Unfit() if part, made of tuples, is no PART of a and b."""
    if not is_part(sheet, a, b, part):
        raise Unfit()


def alone(sheet, a, b, part, far):
    """The PART by itself, with far; all of it made of tuples."""
    names = part_names(a, part)
    hard = rules_within(sheet[1], names) + just_so(0, names.index(b), far)
    return len(names), hard, rules_within(sheet[2], names)


def part_sheet(sheet, a, b, part, far):
    """The PART by itself, with far; Unfit() if part is none."""
    sheet, part = tupled(sheet), tupled(part)
    must_be_part(sheet, a, b, part)
    return alone(sheet, a, b, part, far)


def held(sheet, a, b, far):
    """The SHEET with b held at far behind a."""
    must_be_two(sheet, a, b)
    many, hard, counted = tupled(sheet)
    return many, hard + just_so(a, b, far), counted


def cut_out(layout, a, part):
    """The tuple of the places of part_names, told from a."""
    return tuple([minus(layout[own], layout[a]) for own in part_names(a, part)])


def part_layout(sheet, a, b, part):
    """The fairest LAYOUT of the PART by itself, b lying as far behind a as in the fairest LAYOUT of sheet."""
    sheet, part = tupled(sheet), tupled(part)
    must_be_part(sheet, a, b, part)
    far = gap_in(fairest(sheet), (a, b))
    return fairest(alone(sheet, a, b, part, far))


def by_parts(sheet, a, b, far):
    """The fairest LAYOUT of sheet held; NoRoom(ring), Loose(lot), Afloat(lot) if this does not stand."""
    return fairest(held(sheet, a, b, far))


def put_together(sheet, a, b, layouts):
    """The tuple of the places of all THINGS, told from 0, by those told for each of least_parts; Unfit() if these do
    not fit together."""
    parts, layouts = least_parts(sheet, a, b), tupled(layouts)
    if not layouts or len(layouts) != len(parts):
        raise Unfit()
    places = {}
    for part, told in zip(parts, layouts):
        if len(told) != len(part):
            raise Unfit()
        for own, place in zip(part_names(a, part), told):
            # Only a and b are told more than once.
            if places.setdefault(own, place) != place:
                raise Unfit()
    return tuple([minus(places[own], places[0]) for own in range(sheet[0])])
