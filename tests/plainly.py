"""What the document says, gone through plainly: all RINGS, all CUTS, all ways, in Python's own fractions.

Nothing here is taken from the package.
"""

from fractions import Fraction
from itertools import combinations, permutations, product


def marks(sheet):
    return [("hard", k) for k in range(len(sheet[1]))] + [("ease", k) for k in range(len(sheet[2]))]


def rule(sheet, mark):
    return sheet[1 if mark[0] == "hard" else 2][mark[1]]


def ease_for(scale, gap):
    corners = [(Fraction(*own), Fraction(*ease)) for own, ease in scale]
    at = 1
    while at < len(corners) - 1 and gap > corners[at][0]:
        at += 1
    (low, base), (high, top) = corners[at - 1], corners[at]
    return base + (gap - low) * (top - base) / (high - low)


def gap_for(scale, ease):
    return ease_for([(own, gap) for gap, own in scale], ease)


def all_rings(sheet):
    """All RINGS that begin with their least mark."""
    found = []
    between = marks_between(sheet)
    for many in range(2, sheet[0] + 1):
        for things in permutations(range(sheet[0]), many):
            if things[0] != min(things):
                continue
            rows = [between.get(step, []) for step in zip(things, things[1:] + things[:1])]
            for ring in product(*rows):
                least = ring.index(min(ring))
                found.append(ring[least:] + ring[:least])
    return sorted(found)


def marks_between(sheet):
    """The dict from each pair of THINGS to the marks of the RULES from the one to the other."""
    found = {}
    for mark in marks(sheet):
        found.setdefault(rule(sheet, mark)[:2], []).append(mark)
    return found


def hard_rings(sheet):
    return [ring for ring in all_rings(sheet) if all(word == "hard" for word, _ in ring)]


def counted_rings(sheet):
    return [ring for ring in all_rings(sheet) if any(word == "ease" for word, _ in ring)]


def hard_sum(sheet, ring):
    return sum((Fraction(*rule(sheet, mark)[2]) for mark in ring if mark[0] == "hard"), Fraction(0))


def sum_at(sheet, ring, ease):
    return hard_sum(sheet, ring) + sum(gap_for(rule(sheet, mark)[2], ease) for mark in ring if mark[0] == "ease")


def ring_things(sheet, ring):
    return [rule(sheet, mark)[0] for mark in ring]


def without_room(sheet):
    return [ring for ring in hard_rings(sheet) if hard_sum(sheet, ring) > 0]


def all_cuts(sheet):
    return [cut for many in range(1, sheet[0]) for cut in combinations(range(sheet[0]), many)]


def leaves(own, cut):
    return own[0] in cut and own[1] not in cut


def enters(own, cut):
    return own[0] not in cut and own[1] in cut


def loose_lots(sheet):
    both = sheet[1] + sheet[2]
    return [cut for cut in all_cuts(sheet) if not any(leaves(own, cut) for own in both)
            and any(enters(own, cut) for own in sheet[2])]


def all_ways(sheet, i, j):
    """All ways from i to j, by hard RULES."""
    if i == j:
        return [()]
    between = [own for own in range(sheet[0]) if own not in (i, j)]
    found, hard = [], marks_between((sheet[0], sheet[1], ()))
    for many in range(len(between) + 1):
        for middle in permutations(between, many):
            things = (i,) + middle + (j,)
            found += list(product(*[hard.get(step, []) for step in zip(things, things[1:])]))
    return found


def hung(sheet):
    """The set of the sets of THINGS that hang together."""
    names = list(range(sheet[0]))
    joined = [(i, j) for i, j, _ in sheet[2]]
    for ring in hard_rings(sheet):
        if hard_sum(sheet, ring) == 0:
            joined += [(ring_things(sheet, ring)[0], own) for own in ring_things(sheet, ring)]
    for i, j in joined:
        names = [names[i] if own == names[j] else own for own in names]
    return tuple(sorted(tuple(k for k in range(sheet[0]) if names[k] == own) for own in set(names)))


def does_stand(sheet):
    on_rings = {mark for ring in counted_rings(sheet) for mark in ring}
    return (not without_room(sheet) and all(("ease", k) in on_rings for k in range(len(sheet[2])))
            and len(hung(sheet)) == 1)


def tells_why(sheet, error):
    """Whether an error is the one that a SHEET that does not stand raises, with what its attribute may be."""
    rings, lots = without_room(sheet), loose_lots(sheet)
    kind, told = error.__class__.__name__, vars(error)
    if rings:
        ring = told.get("ring", ())
        return kind == "NoRoom" and any(ring[at:] + ring[:at] in rings for at in range(len(ring)))
    if lots:
        return kind == "Loose" and told.get("lot") in lots
    floating = tuple(sorted(own for lot in hung(sheet) if 0 not in lot for own in lot))
    return kind == "Afloat" and told.get("lot") == floating


def gap(layout, own):
    return Fraction(*layout[own[1]]) - Fraction(*layout[own[0]])


def keeps(sheet, layout):
    """Whether a tuple of FRACTIONS is a LAYOUT."""
    return (len(layout) == sheet[0] and layout[0] == (0, 1)
            and all(gap(layout, own) >= Fraction(*own[2]) for own in sheet[1]))


def eases(sheet, layout):
    return [ease_for(own[2], gap(layout, own)) for own in sheet[2]]


def is_tight(layout, own):
    return gap(layout, own) == Fraction(*own[2])


def like(sheet, layout, cut):
    if any(leaves(own, cut) and is_tight(layout, own) for own in sheet[1]):
        return True
    told = eases(sheet, layout)
    out = [told[k] for k, own in enumerate(sheet[2]) if leaves(own, cut)]
    into = [told[k] for k, own in enumerate(sheet[2]) if enters(own, cut)]
    return not into or (bool(out) and min(out) <= min(into))


def has_reasons(sheet, layout):
    """Whether each counted RULE lies on a RING of tight hard RULES and of counted ones of no more ease."""
    told, rows = eases(sheet, layout), counted_rings(sheet)

    def holds(ring, k):
        return ("ease", k) in ring and all(
            told[at] <= told[k] if word == "ease" else is_tight(layout, sheet[1][at]) for word, at in ring)
    return all(any(holds(ring, k) for ring in rows) for k in range(len(sheet[2])))


def level(sheet, ring):
    """The ease at which a RING closes: looked for between the eases of corners, where its sum goes straight on."""
    told = [rule(sheet, mark)[2] for mark in ring if mark[0] == "ease"]
    some = sorted({Fraction(*ease) for scale in told for _, ease in scale})
    at = 0
    while at < len(some) - 2 and sum_at(sheet, ring, some[at + 1]) < 0:
        at += 1
    low, high = some[at], some[at + 1]
    base, top = sum_at(sheet, ring, low), sum_at(sheet, ring, high)
    return low - base * (high - low) / (top - base)


def compare(mine, yours):
    """1 if the first eases, put in order, are fairer, -1 if the others are, 0 otherwise."""
    mine, yours = sorted(mine), sorted(yours)
    return (mine > yours) - (mine < yours)


class Tower:
    """LOTS as dicts from THINGS to places, put together just as [9] tells it."""

    def __init__(self, sheet):
        self.sheet = sheet
        self.lots = [{own: Fraction(0)} for own in range(sheet[0])]
        self.put_fast()

    def lot_of(self, thing):
        return [at for at, lot in enumerate(self.lots) if thing in lot][0]

    def is_round(self, ring):
        if len(ring) < 2:
            return False
        starts = [self.lot_of(rule(self.sheet, mark)[0]) for mark in ring]
        ends = [self.lot_of(rule(self.sheet, mark)[1]) for mark in ring]
        return len(set(starts)) == len(starts) and ends == starts[1:] + starts[:1]

    def told(self, mark, ease):
        own = rule(self.sheet, mark)
        return Fraction(*own[2]) if mark[0] == "hard" else gap_for(own[2], ease)

    def comes_to(self, ring, ease):
        total = Fraction(0)
        for mark, behind in zip(ring, ring[1:] + ring[:1]):
            lot = self.lots[self.lot_of(rule(self.sheet, behind)[0])]
            total += self.told(mark, ease) + lot[rule(self.sheet, behind)[0]] - lot[rule(self.sheet, mark)[1]]
        return total

    def put(self, ring, ease):
        made, at = {}, Fraction(0)
        for mark in ring:
            i, j = rule(self.sheet, mark)[:2]
            lot = self.lots[self.lot_of(i)]
            # at is the place of i.
            made.update({own: at + lot[own] - lot[i] for own in lot})
            at += self.told(mark, ease)
            behind = ring[(ring.index(mark) + 1) % len(ring)]
            lot = self.lots[self.lot_of(j)]
            at += lot[rule(self.sheet, behind)[0]] - lot[j]
        self.lots = [lot for lot in self.lots if not set(lot) & set(made)] + [made]

    def rounds(self):
        """All ROUNDS that begin with their least mark."""
        found = set()
        between = [own for own in marks(self.sheet)
                   if self.lot_of(rule(self.sheet, own)[0]) != self.lot_of(rule(self.sheet, own)[1])]
        step = {own: (self.lot_of(rule(self.sheet, own)[0]), self.lot_of(rule(self.sheet, own)[1])) for own in between}
        for many in range(2, len(self.lots) + 1):
            for some in permutations(range(len(self.lots)), many):
                rows = [[own for own in between if step[own] == pair] for pair in zip(some, some[1:] + some[:1])]
                found.update(ring for ring in product(*rows) if ring[0] == min(ring))
        return sorted(found)

    def put_fast(self):
        while True:
            fast = [ring for ring in self.rounds() if all(word == "hard" for word, _ in ring)
                    and self.comes_to(ring, None) == 0]
            if not fast:
                return
            self.put(fast[0], None)

    def open_places(self):
        return [k for k, own in enumerate(self.sheet[2]) if self.lot_of(own[0]) != self.lot_of(own[1])]


def tower_leads(sheet, stages):
    """The places that stages, pairs of a FRACTION and a tuple of marks of sheet, tell as a TOWER; None if they are none.

    The error of each kind is looked for just where [9] tells of it.
    """
    tower, ahead, last = Tower(sheet), [], None
    for told, ring in stages:
        ease = Fraction(*told)
        if not tower.is_round(ring) or not any(word == "ease" for word, _ in ring):
            return None
        if tower.comes_to(ring, ease) != 0 or (last is not None and ease < last):
            return None
        ahead.append((ease, tower.open_places()))
        tower.put(ring, ease)
        tower.put_fast()
        last = ease
    if len(tower.lots) > 1 or tower.open_places():
        return None
    lot = tower.lots[0]
    places = [lot[own] - lot[0] for own in range(sheet[0])]
    layout = tuple((own.numerator, own.denominator) for own in places)
    told = eases(sheet, layout)
    if not keeps(sheet, layout) or any(told[k] < ease for ease, some in ahead for k in some):
        return None
    return layout


def pair(number):
    return (number.numerator, number.denominator)


def told_at(sheet, ease):
    """The SHEET with a hard RULE behind the others for each counted one: for the gap at which it has this ease."""
    more = tuple((i, j, pair(gap_for(scale, ease))) for i, j, scale in sheet[2])
    return (sheet[0], sheet[1] + more, ())


def some_layout(sheet, places):
    """A LAYOUT of a SHEET no RING of which is without room: these places, each moved on as far as RULES want it."""
    places = list(places)
    for _ in range(sheet[0]):
        for i, j, far in sheet[1]:
            places[j] = max(places[j], places[i] + Fraction(*far))
    return tuple(pair(Fraction(own - places[0])) for own in places)


def least_level(sheet):
    """The least level of all RINGS with a counted RULE; None without any."""
    return min([level(sheet, ring) for ring in counted_rings(sheet)], default=None)


def ring_ease(tower, ring):
    """The ease at which a ROUND with a counted RULE comes to 0."""
    told = [rule(tower.sheet, mark)[2] for mark in ring if mark[0] == "ease"]
    some = sorted({Fraction(*ease) for scale in told for _, ease in scale})
    at = 0
    while at < len(some) - 2 and tower.comes_to(ring, some[at + 1]) < 0:
        at += 1
    low, high = some[at], some[at + 1]
    base, top = tower.comes_to(ring, low), tower.comes_to(ring, high)
    return low - base * (high - low) / (top - base)


def stage_rows(sheet, most):
    """Up to so many tuples of pairs of an ease and a ROUND that comes to 0 at it, until no counted RULE is open.

    The ROUNDS are whichever, not those of the least ease: so some of these are TOWERS, and some are not.
    """
    found, left = [], [()]
    while left and len(found) < most:
        stages = left.pop()
        tower = Tower(sheet)
        for told, ring in stages:
            tower.put(ring, Fraction(*told))
            tower.put_fast()
        if not tower.open_places():
            found.append(stages)
            continue
        for ring in tower.rounds():
            if any(word == "ease" for word, _ in ring):
                left.append(stages + ((pair(ring_ease(tower, ring)), ring),))
    return found


def ways_by(sheet, some, i, j):
    """All tuples of these marks that lead from i to j, each on from the one ahead, and come to no THING twice."""
    found, left = [], [((i,), ())]
    while left:
        things, way = left.pop()
        if things[-1] == j:
            found.append(way)
            continue
        left += [(things + (rule(sheet, mark)[1],), way + (mark,)) for mark in some
                 if rule(sheet, mark)[0] == things[-1] and rule(sheet, mark)[1] not in things]
    return found


def binding(sheet, layout, ease):
    """The marks of the tight hard RULES, and of the counted ones of at most this ease (of none if it is None)."""
    told = eases(sheet, layout)
    return [("hard", k) for k, own in enumerate(sheet[1]) if is_tight(layout, own)] + [
        ("ease", k) for k in range(len(told)) if ease is not None and told[k] <= ease]


def reasons_for(sheet, layout, k):
    """All REASONS of k in layout that begin with its mark: RINGS, looked through one by one."""
    bound = binding(sheet, layout, eases(sheet, layout)[k])
    rings = [ring for ring in all_rings(sheet) if ("ease", k) in ring and all(mark in bound for mark in ring)]
    return sorted(ring[ring.index(("ease", k)):] + ring[:ring.index(("ease", k))] for ring in rings)


def bars_of(sheet, layout, k):
    """All BARS of k in layout."""
    told = eases(sheet, layout)
    return [cut for cut in all_cuts(sheet) if enters(sheet[2][k], cut)
            and not any(leaves(own, cut) and is_tight(layout, own) for own in sheet[1])
            and all(told[at] > told[k] for at, own in enumerate(sheet[2]) if leaves(own, cut))]


def moved(layout, cut, far):
    """The places with this CUT moved on by far, told from THING 0 again."""
    places = [Fraction(*own) + (far if k in cut else 0) for k, own in enumerate(layout)]
    return tuple(pair(own - places[0]) for own in places)


def step_least(sheet, layout, cut, far):
    """The least ease of the counted RULES that leave or enter a CUT, when it is moved on by far."""
    told = eases(sheet, moved(layout, cut, far))
    return min(told[k] for k, own in enumerate(sheet[2]) if leaves(own, cut) or enters(own, cut))


def best_steps(sheet, layout, cut):
    """All FRACTIONS from 0 on by which a CUT that is not like can be moved on such that hard RULES are kept and the
    least ease of the counted RULES that leave or enter it is greatest; [] if it is the greater the farther.

    Looked for where two eases are even or a hard RULE is tight: between the corners eases go straight on.
    """
    across = [own for own in sheet[2] if leaves(own, cut) or enters(own, cut)]
    room = [gap(layout, own) - Fraction(*own[2]) for own in sheet[1] if leaves(own, cut)]
    turns = {Fraction(0)}
    for own in across:
        for corner, _ in own[2]:
            far = (Fraction(*corner) - gap(layout, own)) * (1 if enters(own, cut) else -1)
            turns.add(far)
    turns = sorted(far for far in turns if far >= 0)
    turns.append(turns[-1] + 1)
    some = set(turns[:-1]) | set(room)
    for low, high in zip(turns, turns[1:]):
        for one in across:
            for other in across:
                ends = [ease_for(own[2], gap(moved(layout, cut, far), own)) for far in (low, high)
                        for own in (one, other)]
                grows = (ends[2] - ends[0]) - (ends[3] - ends[1])
                if grows:
                    some.add(low - (ends[0] - ends[1]) * (high - low) / grows)
    some = [far for far in some if far >= 0 and all(far <= own for own in room)]
    if not any(leaves(own, cut) for own in sheet[1] + sheet[2]):
        return []
    best = max(step_least(sheet, layout, cut, far) for far in some)
    return [far for far in some if step_least(sheet, layout, cut, far) == best]


def lots_of(sheet, some):
    """The list of the sets of THINGS that can come to each other by these marks."""
    lots, things = [], range(sheet[0])
    for thing in things:
        if not any(thing in lot for lot in lots):
            lots.append(tuple(own for own in things if ways_by(sheet, some, thing, own)
                              and ways_by(sheet, some, own, thing)))
    return lots


def told_more(sheet, mark, far):
    """The SHEET with the RULE of this mark told by far more."""
    def more(told):
        if mark[0] == "hard":
            return pair(Fraction(*told) + far)
        return tuple((pair(Fraction(*own) + far), ease) for own, ease in told)
    side = 1 if mark[0] == "hard" else 2
    rules = [(i, j, more(told)) if k == mark[1] else (i, j, told) for k, (i, j, told) in enumerate(sheet[side])]
    return (sheet[0], tuple(rules), sheet[2]) if side == 1 else (sheet[0], sheet[1], tuple(rules))


def is_fairest(sheet, layout):
    """Whether layout is the fairest one of a SHEET that stands: by all CUTS."""
    return keeps(sheet, layout) and all(like(sheet, layout, cut) for cut in all_cuts(sheet))


def at_width(sheet, place, width):
    """The SHEET with its hard RULE of this place told by this width, a Fraction."""
    hard = tuple((i, j, pair(-width)) if k == place else (i, j, far) for k, (i, j, far) in enumerate(sheet[1]))
    return (sheet[0], hard, sheet[2])


def without(sheet, mark):
    """The SHEET without the RULE of this mark."""
    rules = [tuple(own for k, own in enumerate(some) if (word, k) != tuple(mark))
             for word, some in zip(("hard", "ease"), sheet[1:])]
    return (sheet[0], rules[0], rules[1])


def is_free(sheet, place):
    """Whether sheet is free of its hard RULE of this place."""
    rest = without(sheet, ("hard", place))
    on_rings = {mark for ring in counted_rings(sheet) for mark in ring}
    return (not without_room(rest) and len(hung(rest)) == 1
            and all(("ease", k) in on_rings for k in range(len(sheet[2]))))


def least_width(sheet, place):
    """The greatest sum of far of the ways from the j of this hard RULE to its i; None without any."""
    i, j, _ = sheet[1][place]
    return max([hard_sum(sheet, way) for way in all_ways(sheet, j, i)], default=None)


def places_by(lines, width):
    """The places that lines tell for a width, a Fraction."""
    return tuple(pair(Fraction(*own) + Fraction(*slope) * width) for own, slope in lines)


def turns_of(sheet, lines):
    """All widths at which some ease may bend, by these lines."""
    found = set()
    for i, j, scale in sheet[2]:
        own, slope = [Fraction(*lines[j][at]) - Fraction(*lines[i][at]) for at in (0, 1)]
        if slope:
            found.update((Fraction(*corner) - own) / slope for corner, _ in scale)
    return sorted(found)


def stretch_holds(sheet, place, stretch):
    """Whether a STRETCH holds: at its ends, at each turn between them, and farther on where there is no end."""
    first, last, lines, rings = stretch
    low, high = [None if end is None else Fraction(*end) for end in (first, last)]
    turns = turns_of(sheet, lines) + [own for own in (low, high) if own is not None]
    turns = sorted(turns or [Fraction(0)])
    if low is None:
        turns = [turns[0] - 2, turns[0] - 1] + turns
    if high is None:
        turns += [turns[-1] + 1, turns[-1] + 2]
    some = [own for own in turns if (low is None or own >= low) and (high is None or own <= high)]
    rows = [heights(sheet, place, lines, rings, own) for own in some]
    if any(number < 0 for row in rows for number in row[0]) or any(number for row in rows for number in row[1]):
        return False
    if low is None and any(far < near for far, near in zip(rows[0][0], rows[1][0])):
        return False
    return high is not None or all(far >= near for far, near in zip(rows[-1][0], rows[-2][0]))


def heights(sheet, place, lines, rings, width):
    """What may not be below 0 at this width, and what must be 0, if a STRETCH holds."""
    told, layout = at_width(sheet, place, width), places_by(lines, width)
    above = [gap(layout, own) - Fraction(*own[2]) for own in told[1]]
    eased = eases(told, layout)
    just = [above[k] for ring in rings for word, k in ring if word == "hard"] + [Fraction(*layout[0])]
    return above + [eased[k] - eased[at] for k, ring in enumerate(rings) for word, at in ring if word == "ease"], just


def ways_of_all(sheet, i, j):
    """All ways from i to j by RULES of both kinds."""
    return ways_by(sheet, marks(sheet), i, j)


def lots_with(sheet, a, b):
    """All sets of THINGS, a and b among them and at least one more."""
    return [lot for many in range(3, sheet[0] + 1) for lot in combinations(range(sheet[0]), many)
            if a in lot and b in lot]


def bars_of_lot(sheet, a, b, lot):
    """The marks of the RULES of a THING of lot, but a and b, and of one that is not in lot."""
    return [mark for mark in marks(sheet) if any(
        own in lot and own not in (a, b) and not set(rule(sheet, mark)[:2]) <= set(lot)
        for own in rule(sheet, mark)[:2])]


def parts_of(sheet, a, b):
    """All PARTS of a and b."""
    return [lot for lot in lots_with(sheet, a, b) if not bars_of_lot(sheet, a, b, lot)]


def least_parts(sheet, a, b):
    """Those PARTS of a and b within which no other one lies."""
    every = parts_of(sheet, a, b)
    return sorted(lot for lot in every if not any(set(other) < set(lot) for other in every))


def with_gap(sheet, a, b, far):
    """The SHEET with two hard RULES more behind its hard ones: b lies far, a Fraction, behind a."""
    return (sheet[0], sheet[1] + ((a, b, pair(far)), (b, a, pair(-far))), sheet[2])


def names_in(a, part):
    """The THINGS of a PART: a first."""
    return [a] + sorted(set(part) - {a})


def by_itself(sheet, a, b, part, far):
    """A PART by itself, with far, a Fraction."""
    names = {own: at for at, own in enumerate(names_in(a, part))}
    rules = [tuple((names[i], names[j], told) for i, j, told in some if i in names and j in names)
             for some in sheet[1:]]
    return with_gap((len(names), rules[0], rules[1]), 0, names[b], Fraction(far))


def told_from(layout, things):
    """The places of these THINGS, told from the first one."""
    return tuple(pair(Fraction(*layout[own]) - Fraction(*layout[things[0]])) for own in things)


def bypasses(sheet, k):
    """All BYPASSES of hard RULE k."""
    i, j, far = sheet[1][k]
    return [way for way in all_ways(sheet, i, j)
            if ("hard", k) not in way and hard_sum(sheet, way) >= Fraction(*far)]


def floor_of(layout, t):
    """The floor of a LAYOUT at t, a Fraction."""
    return tuple(((Fraction(*own) + t).__floor__(), 1) for own in layout)


def fairest_by(sheet, tried):
    """Whether all THINGS lie at tried in the fairest LAYOUT of sheet; False if it does not stand."""
    return does_stand(sheet) and is_fairest(sheet, tried)
