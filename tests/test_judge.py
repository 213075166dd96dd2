"""[2], [3], [21]: CLAIMS and PAPERS, judged once more by all RINGS, CUTS, ways and sets."""

import time
import unittest
from fractions import Fraction

import plainly
from drawn import (ODD_THINGS, PLAIN, Row, bent, big_sheet, drawn_lot_sheet, drawn_places, drawn_round_sheets,
                   drawn_sheets, listed, pair, stairs)

from likecuts.cuts import complaint, moved_on
from likecuts.errors import TooMuch, Unfit
from likecuts.judge import (comes_of, first_false, is_claim, is_paper_against, is_paper_for, is_so, paper, verdicts)
from likecuts.levels import eased, top_level
from likecuts.towers import fairest, tower
from likecuts.widths import is_free, is_table, lines_of, table

MAT, BARE = (3, ((2, 0, (-4, 1)),), ((0, 1, PLAIN), (1, 2, PLAIN))), (2, (), ((0, 1, PLAIN),))
SHUT = (3, MAT[1] + ((0, 1, (3, 1)),), MAT[2])
LEVEL, SKEWED = ((0, 1), (2, 1), (4, 1)), ((0, 1), (1, 1), (4, 1))
STACK = (3, ((0, 1, (2, 1)), (1, 2, (2, 1)), (0, 2, (3, 1)), (2, 0, (-9, 1))), MAT[2])
WEB = (4, ((3, 0, (-4, 1)),), ((0, 1, PLAIN), (1, 3, PLAIN), (0, 2, PLAIN), (2, 3, PLAIN)))
ABOUT = (("ease", 0), ("ease", 1), ("hard", 0))
PINNED = (3, ((1, 2, (2, 1)), (2, 1, (-2, 1))), ((0, 1, PLAIN), (1, 0, PLAIN)))
LONE, FLOATING = (1, (), ()), (3, (), ((0, 1, PLAIN), (1, 0, PLAIN)))
TIGHT = (2, ((0, 1, (2, 1)), (1, 0, (-1, 1))), ((0, 1, PLAIN), (1, 0, PLAIN)))
FINE, MORE = [(3, MAT[1], (MAT[2][0], (1, 2, stairs(many)))) for many in (401, 402)]
MANY = (("stands", MAT), ("fairest", MAT, LEVEL), ("fairest", MAT, SKEWED), ("eased", MAT, (2, 1)), ("idle", STACK, 2),
        ("part", WEB, 0, 3, (0, 1, 3)), ("alike", MAT, 0, SHUT, 0), ("stands", BARE))
# What of ODD_THINGS may stand in this place of the CLAIMS of MANY.
RIGHT = {("idle", 2): (0, 1), ("eased", 2): ((0, 1),), ("part", 2): (0, 1), ("part", 3): (1,), ("alike", 2): (0,),
         ("alike", 4): (0, 1)}


def some_sheets(seed, many=25):
    return [MAT, BARE, LONE, FLOATING, TIGHT] + drawn_sheets(seed, many, 4) + drawn_round_sheets(seed + 1, many, 4)


def claims_by(row, sheet, others):
    """Some CLAIMS of a SHEET, so and not so."""
    found = [("stands", sheet)]
    stands, unroomy = plainly.does_stand(sheet), plainly.without_room(sheet)
    if stands:
        found.append(("fairest", sheet, fairest(sheet)))
        found.append(("fairest", sheet, plainly.some_layout(sheet, drawn_places(row, sheet[0]))))
    top = top_level(sheet) if not unroomy else None
    found.append(("eased", sheet, row.fraction()))
    if top is not None:
        found += [("eased", sheet, top), ("eased", sheet, pair(Fraction(*top) + Fraction(1, 7)))]
    if not unroomy and sheet[1]:
        found.append(("idle", sheet, row.below(len(sheet[1]))))
        found.append(("idle", (sheet[0], sheet[1] + sheet[1][:1], sheet[2]), row.below(len(sheet[1]) + 1)))
    if sheet[0] > 2:
        a, b = row.below(sheet[0]), row.below(sheet[0] - 1)
        b += b >= a
        found.append(("part", sheet, a, b, row.one_of(plainly.lots_with(sheet, a, b))))
        if plainly.least_parts(sheet, a, b):
            found.append(("part", sheet, a, b, plainly.least_parts(sheet, a, b)[0]))
    free = [place for place in range(len(sheet[1])) if plainly.is_free(sheet, place)]
    if free:
        place = row.one_of(free)
        found += [("alike", sheet, place, other, spot) for other, spot in others
                  if other[0] == sheet[0] and is_free(other, spot)][:1]
        found.append(("alike", sheet, place, (sheet[0], sheet[1], sheet[2] * 2), place))
        less = (sheet[0], sheet[1], tuple((i, j, tuple((gap, pair(Fraction(*ease) * 2)) for gap, ease in scale))
                                          if k == 0 else (i, j, scale) for k, (i, j, scale) in enumerate(sheet[2])))
        found.append(("alike", sheet, place, less, place))
        others.append((sheet, place))
    return found


def all_claims(seed, many=25):
    row, others = Row(seed + 5), []
    found = list(MANY)
    for sheet in some_sheets(seed, many):
        found += claims_by(row, sheet, others)
    for _ in range(many):
        sheet = drawn_lot_sheet(row)
        a, b = row.below(sheet[0]), row.below(sheet[0] - 1)
        b += b >= a
        if plainly.parts_of(sheet, a, b):
            found.append(("part", sheet, a, b, row.one_of(plainly.parts_of(sheet, a, b))))
    return found


def has_odd(value):
    """Whether a list or a bool stands in it: these are equal to what they are not."""
    if isinstance(value, (tuple, list)):
        return isinstance(value, list) or any(has_odd(own) for own in value)
    return isinstance(value, bool)


def least_turn(value):
    """A tuple turned so that its least member is the first one; None if it can not be."""
    try:
        at = value.index(min(value))
        return value[at:] + value[:at]
    except (TypeError, ValueError, AttributeError):
        return None


class Judge:
    """Says once more, by all RINGS, CUTS, ways and sets, what is a PAPER."""

    def is_so(self, claim):
        word, sheet, *rest = claim
        if word == "stands":
            return plainly.does_stand(sheet)
        if word == "fairest":
            return plainly.is_fairest(sheet, rest[0])
        if word == "eased":
            return not [ring for ring in plainly.all_rings(sheet) if self.bars(sheet, rest[0], ring)]
        if word == "idle":
            return bool(plainly.bypasses(sheet, rest[0]))
        if word == "part":
            return rest[2] in plainly.parts_of(sheet, rest[0], rest[1])
        return lines_of(sheet, rest[0]) == lines_of(rest[1], rest[2])

    def bars(self, sheet, ease, ring):
        if any(word == "ease" for word, _ in ring):
            return plainly.level(sheet, ring) < Fraction(*ease)
        return plainly.hard_sum(sheet, ring) > 0

    def verdict(self, claim, thing):
        if has_odd(thing):
            return "none"
        if self.is_for(claim, thing):
            return "for"
        return "against" if self.is_against(claim, thing) else "none"

    def is_for(self, claim, thing):
        word, sheet, *rest = claim
        if word == "eased":
            return self.is_layout(sheet, thing) and all(own >= Fraction(*rest[0])
                                                        for own in plainly.eases(sheet, thing))
        if word == "idle":
            return thing in plainly.bypasses(sheet, rest[0])
        if word == "part":
            return thing == () and self.is_so(claim)
        if not isinstance(thing, tuple):
            return False
        if word == "stands":
            return plainly.does_stand(sheet) and self.is_tower(sheet, thing)
        if word == "fairest":
            return len(thing) == len(sheet[2]) and all(
                isinstance(ring, tuple) and ("ease", k) in ring
                and least_turn(ring) in [least_turn(own) for own in plainly.reasons_for(sheet, rest[0], k)]
                for k, ring in enumerate(thing))
        # Two TABLES are looked at in tests/test_widths.py.
        return (len(thing) == 2 and is_table(sheet, rest[0], thing[0]) and is_table(rest[1], rest[2], thing[1])
                and [own[:3] for own in thing[0]] == [own[:3] for own in thing[1]])

    def is_tower(self, sheet, thing):
        for stage in thing:
            if not isinstance(stage, tuple) or len(stage) != 2 or not self.is_fraction(stage[0]):
                return False
            if not isinstance(stage[1], tuple) or not all(mark in plainly.marks(sheet) for mark in stage[1]):
                return False
        return plainly.tower_leads(sheet, thing) is not None

    def is_against(self, claim, thing):
        word, sheet, *rest = claim
        if word == "idle":
            return (self.is_layout(plainly.without(sheet, ("hard", rest[0])), thing)
                    and not plainly.keeps(sheet, thing))
        if word == "part":
            return thing in plainly.bars_of_lot(sheet, rest[0], rest[1], rest[2])
        if word == "alike":
            return self.is_fraction(thing) and self.is_apart(sheet, rest[0], rest[1], rest[2], Fraction(*thing))
        if not isinstance(thing, tuple):
            return False
        if word == "fairest":
            cuts = [cut for cut in plainly.all_cuts(sheet) if not plainly.like(sheet, rest[0], cut)]
            return thing in cuts or self.is_complaint(sheet, rest[0], thing)
        turned = least_turn(thing)
        if word == "eased":
            return turned in plainly.all_rings(sheet) and self.bars(sheet, rest[0], turned)
        lots = [own for lot in plainly.hung(sheet) if 0 not in lot for own in lot]
        return (turned in plainly.without_room(sheet) or thing in plainly.loose_lots(sheet)
                or (not plainly.without_room(sheet) and thing == tuple(sorted(lots)) != ()))

    def is_apart(self, sheet, place, other, spot, width):
        told = [plainly.at_width(sheet, place, width), plainly.at_width(other, spot, width)]
        stands = [plainly.does_stand(own) for own in told]
        return stands[0] != stands[1] or (stands[0] and fairest(told[0]) != fairest(told[1]))

    def is_complaint(self, sheet, layout, thing):
        if len(thing) != 2 or thing[0] not in plainly.all_cuts(sheet) or not self.is_layout(sheet, thing[1]):
            return False
        cut, other = thing
        out = [own for own in range(sheet[0]) if own not in cut][0]
        far = plainly.gap(other, (out, cut[0])) - plainly.gap(layout, (out, cut[0]))
        return (far > 0 and plainly.moved(layout, cut, far) == other
                and plainly.compare(plainly.eases(sheet, other), plainly.eases(sheet, layout)) > 0)

    def is_fraction(self, value):
        return (isinstance(value, tuple) and len(value) == 2 and all(isinstance(own, int) for own in value)
                and value[1] > 0 and pair(Fraction(*value)) == value)

    def is_layout(self, sheet, value):
        return (isinstance(value, tuple) and len(value) == sheet[0] and all(self.is_fraction(own) for own in value)
                and plainly.keeps(sheet, value))


class Claims(unittest.TestCase):
    def test_each_claim_has_papers_for_it_alone_or_against_it_alone(self):
        judge, seen = Judge(), set()
        for claim in all_claims(531):
            right = judge.is_so(claim)
            seen.add((claim[0], right))
            self.assertIs(is_claim(claim), True)
            self.assertIs(is_claim(thing=claim), True)
            self.assertIs(is_claim(list(claim)), False)
            self.assertIs(is_so(claim), right)
            self.assertIs(is_so(claim=listed(claim)), right)
            own = paper(claim)
            self.assertEqual(paper(claim=listed(claim)), own)
            self.assertEqual(judge.verdict(claim, own), "for" if right else "against", (claim, own))
            self.assertIs(is_paper_for(claim, own), right)
            self.assertIs(is_paper_for(thing=own, claim=listed(claim)), right)
            self.assertIs(is_paper_against(claim, own), not right)
            self.assertIs(is_paper_against(thing=own, claim=listed(claim)), not right)
            self.assertEqual(verdicts((claim,), (own,)), ["for" if right else "against"])
            if isinstance(own, tuple):
                self.assertEqual(verdicts((claim,), (list(own),)), ["none"])
        self.assertEqual(len(seen), 12)

    def test_papers_bent(self):
        judge, row, seen = Judge(), Row(535), set()
        claims = all_claims(536, 7)
        for claim in claims:
            things = [paper(claim)] + self.papers(claim, row)
            things += [bent(row, row.one_of(things)) for _ in range(10)] + [paper(row.one_of(claims))]
            right = [judge.verdict(claim, thing) for thing in things]
            seen.update((claim[0], own) for own in right)
            self.assertNotIn("against" if judge.is_so(claim) else "for", right)
            for thing, own in zip(things, right):
                self.assertIs(is_paper_for(claim, thing), own == "for", (claim, thing))
                self.assertIs(is_paper_against(claim, thing), own == "against", (claim, thing))
            self.assertEqual(verdicts((claim,) * len(things), tuple(things)), right)
            self.assertEqual(verdicts(things=things, claims=[listed(claim)] * len(things)), right)
        self.assertEqual(len(seen), 18)

    def papers(self, claim, row):
        """Other PAPERS, and what looks like one."""
        word, sheet, *rest = claim
        found = [sheet, (0,), (1,), tuple(range(1, sheet[0])), (), ((0, 1),) * sheet[0], (row.between(-9, 9), 2)]
        found += plainly.all_rings(sheet)[:3] + plainly.all_cuts(sheet)[:3]
        if word in ("idle", "part"):
            found += list(plainly.marks(sheet))[:4]
        if word == "fairest" and not plainly.is_fairest(sheet, rest[0]):
            cut, other = complaint(sheet, rest[0])
            found += [(cut, other), (cut, rest[0]), (cut, moved_on(rest[0], cut, (1, 9)))]
        if word == "alike":
            found += [(table(sheet, rest[0]), table(rest[1], rest[2])), (row.between(-9, 9), 1), (10 ** 9 + 1, 2)]
        if not plainly.without_room(sheet):
            found.append(eased(sheet, (-99, 1)))
        if plainly.does_stand(sheet):
            found += [tower(sheet), fairest(sheet)]
        return found

    def test_papers_against_what_stands(self):
        # No RING without room, but a loose CUT and THINGS that hang by nothing: either tells it.
        both = (4, (), ((0, 1, PLAIN),))
        for thing, right in (((1,), True), ((2, 3), True), ((1, 2), True), ((0,), False), ((3,), False), ((), False),
                             ((1, 2, 3), True), ((2,), False), ([2, 3], False), ((0, 2, 3), False), ((3, 2), False)):
            self.assertIs(is_paper_against(("stands", both), thing), right, thing)
        # With a RING without room THINGS that hang by nothing tell nothing, loose CUTS do.
        ring = (4, ((2, 3, (1, 1)), (3, 2, (0, 1))), ((0, 1, PLAIN),))
        for thing, right in (((("hard", 1), ("hard", 0)), True), ((1,), True), ((2, 3), False), ((1, 2, 3), True)):
            self.assertIs(is_paper_against(("stands", ring), thing), right, thing)
        self.assertIs(is_paper_against(("stands", LONE), ()), False)
        self.assertIs(is_paper_for(("stands", LONE), ()), True)
        self.assertIs(is_paper_for(("stands", FLOATING), ()), False)
        self.assertEqual(paper(("stands", FLOATING)), (2,))

    def test_tables_cut_at_unlike_widths(self):
        # Half way all of them, by RULES of little ease; of the others now the one has more ease, now the other one.
        low = tuple(((gap, 1), (gap - 99, 1)) for gap in (0, 1))
        other = [tuple(((gap, 1), (ease, 1)) for gap, ease in row)
                 for row in (((0, 1), (4, 3), (5, 7)), ((1, 2), (5, 4), (6, 8)))]
        sheets = [(3, MAT[1], ((0, 1, PLAIN), (1, 2, scale), (0, 1, low), (1, 2, low))) for scale in other] + [MAT]
        cuts = [[row[0] for row in table(sheet, 0)[1:]] for sheet in sheets]
        self.assertEqual([len(own) for own in cuts], [2, 2, 0])
        self.assertFalse(set(cuts[0]) & set(cuts[1]))
        for sheet in sheets:
            for other in sheets:
                claim = ("alike", sheet, 0, other, 0)
                own = paper(claim)
                self.assertIs(is_paper_for(claim, own), True)
                self.assertEqual(Judge().verdict(claim, own), "for")
                self.assertIs(is_paper_for(claim, (table(sheet, 0), table(other, 0))),
                              [row[:3] for row in table(sheet, 0)] == [row[:3] for row in table(other, 0)])
                self.assertIs(is_paper_for(claim, own + own[:1]), False)
                self.assertIs(is_paper_for(claim, own[:1]), False)
                self.assertIs(is_paper_for(claim, (own[0], own[1][:-1])), False)

    def test_a_part_has_the_empty_paper(self):
        part, none = ("part", WEB, 0, 3, (0, 1, 3)), ("part", WEB, 0, 1, (0, 1, 2))
        self.assertEqual((paper(part), paper(none)), ((), ("ease", 3)))
        for thing in ODD_THINGS:
            right = isinstance(thing, tuple) and thing == ()
            self.assertIs(is_paper_for(part, thing), right)
            self.assertIs(is_paper_for(none, thing), False)
            self.assertIs(is_paper_against(part, thing), False)

    def test_no_other_claim(self):
        for claim in MANY:
            self.assertIs(is_claim(claim), True)
        for thing in ODD_THINGS:
            self.assertIs(is_claim(thing), False)
            for claim in MANY:
                for at in range(len(claim)):
                    own = claim[:at] + (thing,) + claim[at + 1:]
                    right = thing in RIGHT.get((claim[0], at), ()) and not has_odd(thing)
                    self.assertIs(is_claim(own), right, own)
            for claim in MANY:
                self.assertIs(is_claim(claim + (thing,)), False)
        wrong = (("stands",), ("stands", MAT, MAT), ("stands", MAT[:2]), ("fairest", MAT),
                 ("fairest", BARE, ((0, 1), (1, 1))), ("fairest", MAT, LEVEL[:2]),
                 ("fairest", MAT, ((0, 1), (2, 1), (5, 1))), ("eased", MAT, 2), ("eased", MAT, (2, 2)), ("eased", MAT),
                 ("idle", TIGHT, 0), ("idle", MAT, 1), ("idle", MAT, -1), ("idle", MAT, True), ("idle", BARE, 0),
                 ("part", WEB, 0, 0, (0, 1, 3)), ("part", WEB, 0, 4, (0, 1, 3)), ("part", WEB, 0, 3, (0, 3)),
                 ("part", WEB, 0, 3, (0, 1, 2)), ("part", WEB, 0, 3, (1, 0, 3)),
                 ("part", WEB, 0, 3), ("part", WEB, 3, 0, (0, 1, 4)), ("part", WEB, True, 0, (0, 1, 3)),
                 ("alike", MAT, 0, MAT, 1), ("alike", MAT, 1, MAT, 0), ("alike", MAT, 0, BARE, 0),
                 ("alike", MAT, 0, (2, ((1, 0, (0, 1)),), ((0, 1, PLAIN),)), 0), ("alike", MAT, False, MAT, 0),
                 ("alike", (3, MAT[1], ()), 0, MAT, 0), ("alike", MAT, 0, PINNED, 1), ("alike", MAT, 0, MAT),
                 ("alike", MAT, 0, MAT, 0, 0), ("other", MAT), ("Stands", MAT), ("", MAT), (None, MAT), (("stands",), MAT))
        for thing in wrong:
            self.assertIs(is_claim(thing), False, thing)
            self.raises(Unfit, lambda: is_so(thing))
        # A list may stand for a tuple in what is passed as a claim.
        for claim in (["stands", MAT], ("stands", list(MAT)), ("fairest", MAT, list(LEVEL)),
                      ("part", WEB, 0, 3, [0, 1, 3]), ("alike", MAT, 0, list(MAT), 0)):
            self.assertIs(is_claim(claim), False)
            self.assertIs(is_so(claim), True)

    def raises(self, kind, call):
        with self.assertRaises(kind) as caught:
            call()
        self.assertEqual(vars(caught.exception), {})

    def test_claims_bent(self):
        row, seen = Row(541), set()
        for claim in all_claims(542, 12):
            for _ in range(8):
                thing = bent(row, claim)
                right = is_claim(thing)
                seen.add(right)
                if has_odd(thing):
                    self.assertIs(right, False)
                told = self.is_one(thing)
                if told is not None:
                    self.assertIs(right, told, thing)
                if not right and not has_odd(thing):
                    self.raises(Unfit, lambda: is_so(thing))
        self.assertEqual(seen, {True, False})

    def is_one(self, thing):
        """Whether thing is a CLAIM of what is still a SHEET; None if this is not told here."""
        if has_odd(thing) or not isinstance(thing, tuple) or len(thing) < 2 or thing[1] not in self.sheets():
            return None
        word, sheet, *rest = thing
        if word == "stands":
            return not rest
        if word == "idle":
            return (len(rest) == 1 and rest[0].__class__ is int and 0 <= rest[0] < len(sheet[1])
                    and not plainly.without_room(sheet))
        if word == "part" and len(rest) == 3 and all(own.__class__ is int for own in rest[:2]):
            return (all(0 <= own < sheet[0] for own in rest[:2]) and rest[0] != rest[1]
                    and rest[2] in plainly.lots_with(sheet, rest[0], rest[1]))
        return None

    def sheets(self):
        return (MAT, BARE, SHUT, STACK, WEB, LONE, FLOATING, TIGHT)

    def test_greater_than_the_bounds(self):
        huge = 10 ** 40
        self.assertIs(is_claim(("stands", (huge, (), ()))), True)
        self.assertIs(is_claim(("fairest", (huge, (), ()), ((0, 1),))), False)
        self.assertIs(is_claim(("idle", (huge, ((0, huge - 1, (1, 1)),), ()), 0)), True)
        self.assertIs(is_claim(("part", (huge, (), ()), 0, huge - 1, (0, 7, huge - 1))), True)
        self.assertIs(is_claim(("alike", (huge,) + MAT[1:], 0, (huge,) + MAT[1:], 0)), False)
        self.assertIs(is_claim(("eased", (huge, (), ()), (huge, 7))), True)
        own = ("stands", (huge, (), ((0, 1, PLAIN), (1, 0, PLAIN))))
        for thing in ((2,), (), (1,), tuple(range(2, 500)), ((), ())):
            self.assertIs(is_paper_for(own, thing), False)
            self.assertIs(is_paper_against(own, thing), False)
        self.assertIs(is_paper_against(("stands", (huge, (), ((0, 1, PLAIN),))), (1, 7)), True)
        self.assertIs(is_paper_for(("part", (huge, (), ()), 0, 1, (0, 1, huge - 1)), ()), True)
        self.assertIs(is_paper_for(("eased", (huge, (), ()), (0, 1)), ((0, 1),)), False)
        row = (60, ((59, 0, (-99, 1)),), tuple((k, k + 1, PLAIN) for k in range(59)))
        self.assertIs(is_claim(("alike", row, 0, row, 0)), True)
        self.assertIs(is_paper_against(("stands", (500, (), ())), tuple(range(1, 500))), True)


class Many(unittest.TestCase):
    def raises(self, kind, call):
        with self.assertRaises(kind) as caught:
            call()
        self.assertEqual(vars(caught.exception), {})

    def test_verdicts(self):
        judge, row = Judge(), Row(545)
        claims = all_claims(546, 5)
        things = [paper(claim) if row.below(2) else row.one_of((paper(row.one_of(claims)), None, (), [], "for", 7))
                  for claim in claims]
        right = [judge.verdict(claim, thing) for claim, thing in zip(claims, things)]
        self.assertEqual(verdicts(tuple(claims), tuple(things)), right)
        self.assertEqual(verdicts(things=things, claims=listed(claims)), right)
        self.assertEqual(set(right), {"for", "against", "none"})
        self.assertEqual(verdicts((), ()), [])
        found = verdicts((), ())
        found.append("for")
        self.assertEqual(verdicts([], []), [])

    def test_not_equally_many(self):
        alike = ("alike", MORE, 0, MORE, 0)
        for claims, things in (((), (1,)), ((("stands", MAT),), ()), ((alike,), ()), ((alike,), (1, 2)),
                               ((alike, ("stands", MAT)), (None,))):
            self.raises(Unfit, lambda: verdicts(claims, things))

    def test_unfit_ahead_of_all_else(self):
        alike = ("alike", MORE, 0, MORE, 0)
        for wrong in (("stands", None), ("idle", MAT, 1), None, 7, "stands", ("fairest", MAT, ((0, 1),)), (), [],
                      ("alike", MAT, 0, BARE, 0), listed(("idle", MAT, 1))):
            for call in (lambda: is_so(wrong), lambda: paper(wrong), lambda: is_paper_for(wrong, ()),
                         lambda: is_paper_against(wrong, None), lambda: verdicts((wrong,), ((),)),
                         lambda: verdicts((alike, wrong), (None, None)), lambda: comes_of(wrong, ()),
                         lambda: comes_of(("stands", MAT), (("stands", MAT), wrong)),
                         lambda: comes_of(wrong, (wrong,)), lambda: first_false((wrong,)),
                         lambda: first_false((("stands", BARE), alike, wrong)),
                         lambda: first_false([alike, wrong])):
                self.raises(Unfit, call)

    def test_too_much(self):
        first, other = ("alike", MAT, 0, MORE, 0), ("alike", MORE, 0, MAT, 0)
        for call in (lambda: is_paper_for(first, None), lambda: is_paper_against(first, (4, 1)), lambda: paper(first),
                     lambda: verdicts((("stands", BARE), other), ((1,), None)), lambda: is_so(other),
                     lambda: first_false((("stands", MAT), first, ("stands", BARE)))):
            self.raises(TooMuch, call)
        for claim in (first, other):
            self.assertIs(is_claim(claim), True)
            # None behind the first that is not so is asked; and what comes of others is not looked at by itself.
            self.assertEqual(first_false((("stands", MAT), ("stands", BARE), claim)), 1)
            self.assertIs(comes_of(claim, (claim,)), True)
            self.assertIs(comes_of(("stands", MAT), (claim, ("stands", MAT))), True)

    def test_just_not_too_much(self):
        claim = ("alike", FINE, 0, FINE, 0)
        start = time.monotonic()
        own = paper(claim)
        self.assertEqual(len(own), 2)
        self.assertIs(is_paper_for(claim, own), True)
        self.assertLess(time.monotonic() - start, 60)

    def test_first_false(self):
        self.assertIsNone(first_false(()))
        self.assertIsNone(first_false([]))
        judge, row, seen = Judge(), Row(547), set()
        claims = all_claims(548, 6)
        told = [judge.is_so(claim) for claim in claims]
        for _ in range(60):
            some = [row.below(len(claims)) for _ in range(row.below(6))]
            right = min([at for at, own in enumerate(some) if not told[own]], default=None)
            seen.add(right)
            self.assertEqual(first_false(tuple(claims[own] for own in some)), right)
            self.assertEqual(first_false(claims=listed([claims[own] for own in some])), right)
        self.assertTrue({None, 0, 1, 2} <= seen)

    def test_arguments_stay(self):
        claims, things = listed(MANY), [[], None, (), [1], (), (), [(4, 1)], ()]
        kept = ([list(own) for own in claims], list(things))
        verdicts(claims, things), comes_of(claims[0], claims), first_false(claims), is_so(claims[0]), paper(claims[0])
        self.assertEqual((claims, things), (kept[0], [[], None, (), [1], (), (), [(4, 1)], ()]))


def closure(claims, eases, lots):
    """All that comes of CLAIMS by the rules of [21], again and again; of eases and lots those that are named alone."""
    found = list(claims)
    grown = True
    while grown:
        new = [own for claim in found for own in one_step(claim, found, eases)]
        grown = [own for at, own in enumerate(new) if own not in found and own not in new[:at]]
        found += grown
    return found


def one_step(claim, found, eases):
    """What comes of one CLAIM, or of it and of another one of those found."""
    word, sheet, *rest = claim
    if word == "fairest":
        yield ("stands", sheet)
        for ease in eases:
            if all(own >= Fraction(*ease) for own in plainly.eases(sheet, rest[0])):
                yield ("eased", sheet, ease)
    if word == "eased":
        for ease in eases:
            if Fraction(*ease) < Fraction(*rest[0]):
                yield ("eased", sheet, ease)
    if word == "part":
        a, b, lot = rest
        yield ("part", sheet, b, a, lot)
        for other in found:
            if other[:4] == claim[:4]:
                yield ("part", sheet, a, b, tuple(sorted(set(lot) | set(other[4]))))
    if word == "alike":
        place, other, spot = rest
        yield ("alike", other, spot, sheet, place)
        for third in found:
            if third[0] == "alike" and third[1:3] == (other, spot):
                yield ("alike", sheet, place, third[3], third[4])


class ComesOf(unittest.TestCase):
    def test_by_all_rules_again_and_again(self):
        row, seen = Row(551), set()
        wide = [(6, (), tuple((own, k, PLAIN) for k in range(2, 6))) for own in (0, 1)]
        ends = [(MAT, 0), (SHUT, 0), ((3, MAT[1] * 2, MAT[2]), 0), ((3, MAT[1] * 2, MAT[2]), 1), ((3, MAT[1], MAT[2] * 2), 0)]
        eases = [(0, 1), (1, 2), (1, 1), (2, 1), (3, 1)]
        lots = [lot for lot in plainly.lots_with(wide[0], 0, 1)]
        for _ in range(150):
            some = [self.drawn(row, wide, ends, eases, lots) for _ in range(row.below(6))]
            every = closure(some, eases, lots)
            tried = [self.drawn(row, wide, ends, eases, lots) for _ in range(6)] + every[:8]
            for claim in tried:
                right = claim in every
                seen.add((claim[0], right, claim in some))
                self.assertIs(comes_of(claim, tuple(some)), right, (claim, some))
                self.assertIs(comes_of(claims=listed(some), claim=listed(claim)), right)
        # A "fairest" or an "idle" comes of nothing but itself.
        self.assertEqual(len(seen), 6 * 3 - 2)

    def drawn(self, row, wide, ends, eases, lots):
        word = row.one_of(("stands", "fairest", "eased", "idle", "part", "part", "alike", "alike"))
        if word == "stands":
            return (word, row.one_of((MAT, SHUT)))
        if word == "fairest":
            return (word, MAT, row.one_of((LEVEL, SKEWED, ((0, 1), (1, 2), (4, 1)))))
        if word == "eased":
            return (word, row.one_of((MAT, MAT, SHUT)), row.one_of(eases))
        if word == "idle":
            return (word, STACK, row.below(4))
        if word == "part":
            a = row.below(2)
            return (word, row.one_of(wide), a, 1 - a, row.one_of(lots))
        one, two = row.one_of(ends), row.one_of(ends)
        return (word,) + one + two

    def test_of_nothing_comes_nothing(self):
        for claim in MANY:
            self.assertIs(comes_of(claim, ()), False)
            self.assertIs(comes_of(claim, []), False)
            self.assertIs(comes_of(claim, (claim,)), True)
        self.assertIs(comes_of(("alike", MAT, 0, MAT, 0), (("stands", MAT),)), False)

    def test_one_by_one(self):
        fair = ("fairest", MAT, SKEWED)
        self.assertIs(comes_of(("stands", MAT), (fair,)), True)
        self.assertIs(comes_of(("stands", SHUT), (fair,)), False)
        for ease, right in (((1, 1), True), ((0, 1), True), ((-5, 1), True), ((101, 100), False)):
            self.assertIs(comes_of(("eased", MAT, ease), (fair,)), right)
            self.assertIs(comes_of(("eased", SHUT, ease), (fair,)), False)
            self.assertIs(comes_of(("eased", MAT, ease), (("eased", MAT, (1, 1)),)), right)
        # Without counted RULES no ease is less than any.
        fast = (2, ((0, 1, (2, 1)), (1, 0, (-2, 1))), ())
        self.assertIs(comes_of(("eased", fast, (10 ** 3, 1)), (("fairest", fast, ((0, 1), (2, 1))),)), True)
        self.assertIs(comes_of(("fairest", MAT, LEVEL), (("stands", MAT), ("eased", MAT, (2, 1)))), False)
        # Of a greater PART a lesser one does not come, nor one with a THING that none has.
        part = ("part", WEB, 0, 3, (0, 1, 3))
        self.assertIs(comes_of(part, (("part", WEB, 0, 3, (0, 1, 2, 3)),)), False)
        self.assertIs(comes_of(("part", WEB, 0, 3, (0, 1, 2, 3)), (part,)), False)
        self.assertIs(comes_of(("part", WEB, 3, 0, (0, 1, 3)), (part,)), True)
        self.assertIs(comes_of(("part", WEB, 1, 3, (0, 1, 3)), (part,)), False)
        # There and back again, and on by a third one; not by another place of the same SHEET.
        both = (3, MAT[1] * 2, MAT[2])
        told = (("alike", MAT, 0, SHUT, 0), ("alike", both, 1, SHUT, 0))
        self.assertIs(comes_of(("alike", MAT, 0, both, 1), told), True)
        self.assertIs(comes_of(("alike", both, 1, both, 1), told), True)
        self.assertIs(comes_of(("alike", both, 0, MAT, 0), told), False)
        self.assertIs(comes_of(("alike", both, 0, both, 0), told), False)

    def test_what_comes_of_what_is_so_is_so(self):
        judge, seen = Judge(), 0
        claims = all_claims(555, 8)
        right = [claim for claim in claims if judge.is_so(claim)]
        for claim in claims:
            if comes_of(claim, tuple(own for own in right if own != claim)):
                seen += 1
                self.assertIs(judge.is_so(claim), True)
        self.assertGreater(seen, 5)


class Seconds(unittest.TestCase):
    def test_each_call_comes_to_an_end_in_seconds(self):
        row, done, start = Row(561), 0, time.monotonic()
        while done < 3:
            sheet = big_sheet(row)
            if not is_free(sheet, 0):
                continue
            done += 1
            other = (8, sheet[1], sheet[2][:-1])
            some = [("stands", sheet), ("alike", sheet, 0, sheet, 0), ("idle", sheet, 0), ("eased", sheet, (1, 1)),
                    ("part", sheet, 0, 1, tuple(range(8)))]
            some += [("alike", sheet, 0, other, 0)] if is_free(other, 0) else []
            some += [("fairest", sheet, fairest(sheet))] if is_so(some[0]) else []
            things = [paper(claim) for claim in some]
            self.assertEqual(verdicts(some, things), ["for" if is_so(claim) else "against" for claim in some])
        self.assertLess(time.monotonic() - start, 60)


if __name__ == "__main__":
    unittest.main()
