"""What holds across the sections: a SHEET told in another way is laid the same way."""

import unittest
from fractions import Fraction

import plainly
from drawn import PLAIN, Row, drawn_places, drawn_round_sheets, drawn_sheets, pair

from likecuts.cuts import all_like, best_step, is_like, moved_on, unlike_cuts
from likecuts.fractions import minus
from likecuts.layouts import ease_row, eases, fairer, is_layout
from likecuts.levels import top_level
from likecuts.lots import lots_at, tie
from likecuts.reasons import reasons_many, unreasoned
from likecuts.scales import shifted, trimmed
from likecuts.sheets import chain, hard_gap, hung_lots, spans, stands
from likecuts.towers import fairest, first_lots, levels_of


def standing_sheets(seed, many=70):
    some = [(1, (), ())] + drawn_sheets(seed, many, 4) + drawn_round_sheets(seed + 1, many)
    return [sheet for sheet in some if plainly.does_stand(sheet)]


def shuffled(row, some):
    left, found = list(some), []
    while left:
        found.append(left.pop(row.below(len(left))))
    return found


def told_anew(places):
    return tuple(pair(own - places[0]) for own in places)


def in_order(lots):
    return sorted(tuple(sorted(lot)) for lot in lots)


class Told(unittest.TestCase):
    def same_levels(self, sheet, other):
        self.assertIs(stands(other), True)
        self.assertEqual(levels_of(other), levels_of(sheet))
        self.assertEqual(top_level(other), top_level(sheet))

    def test_things_named_otherwise(self):
        row = Row(260)
        for sheet in standing_sheets(261):
            names = shuffled(row, range(sheet[0]))
            other = (sheet[0],) + tuple(tuple((names[i], names[j], told) for i, j, told in rules)
                                        for rules in sheet[1:])
            self.same_levels(sheet, other)
            layout, places = fairest(sheet), [None] * sheet[0]
            for thing, name in enumerate(names):
                places[name] = Fraction(*layout[thing])
            self.assertEqual(fairest(other), told_anew(places))
            self.assertEqual(eases(other, fairest(other)), eases(sheet, layout))
            self.assertEqual(in_order(first_lots(other)),
                             in_order([names[own] for own in lot] for lot in first_lots(sheet)))
            self.assertEqual(in_order(hung_lots(other)), [tuple(range(sheet[0]))])
            for ease in eases(sheet, layout):
                lots = in_order([names[own] for own in lot] for lot in lots_at(sheet, ease))
                self.assertEqual(in_order(lots_at(other, ease)), lots)
            for i in range(sheet[0]):
                self.assertEqual(hard_gap(other, names[0], names[i]), hard_gap(sheet, 0, i))
                self.assertEqual(tie(other, names[0], names[i]), tie(sheet, 0, i))
            for k in range(len(sheet[2])):
                self.assertEqual(reasons_many(other, k), reasons_many(sheet, k))

    def test_moved(self):
        row = Row(263)
        for sheet in standing_sheets(264):
            by = [pair(own) for own in drawn_places(row, sheet[0])]
            hard = tuple((i, j, pair(Fraction(*far) + Fraction(*by[j]) - Fraction(*by[i]))) for i, j, far in sheet[1])
            counted = tuple((i, j, shifted(scale, minus(by[j], by[i]))) for i, j, scale in sheet[2])
            other = (sheet[0], hard, counted)
            self.same_levels(sheet, other)
            some = plainly.some_layout(sheet, drawn_places(row, sheet[0]))
            for layout in (fairest(sheet), some):
                places = told_anew([Fraction(*own) + Fraction(*far) for own, far in zip(layout, by)])
                self.assertIs(is_layout(other, places), True)
                self.assertEqual(eases(other, places), eases(sheet, layout))
                self.assertEqual(unlike_cuts(other, places), unlike_cuts(sheet, layout))
                self.assertEqual(unreasoned(other, places), unreasoned(sheet, layout))
                for cut in plainly.all_cuts(sheet):
                    self.assertEqual(best_step(other, places, cut), best_step(sheet, layout, cut))
                self.assertEqual(places == fairest(other), layout == fairest(sheet))

    def test_rules_turned_about(self):
        row = Row(266)
        for sheet in standing_sheets(267):
            # In another order, and each from its j to its i: then all lie the other way about.
            hard, counted = shuffled(row, sheet[1]), shuffled(row, sheet[2])
            other = (sheet[0], tuple(hard), tuple(counted))
            self.same_levels(sheet, other)
            self.assertEqual(fairest(other), fairest(sheet))
            self.assertEqual(spans(other), spans(sheet))
            self.assertEqual(first_lots(other), first_lots(sheet))
            about = (sheet[0],) + tuple(tuple((j, i, told) for i, j, told in rules) for rules in other[1:])
            self.same_levels(sheet, about)
            self.assertEqual(fairest(about), tuple((-top, bottom) for top, bottom in fairest(sheet)))
            for i in range(sheet[0]):
                self.assertEqual(hard_gap(about, i, 0), hard_gap(sheet, 0, i))
                if hard_gap(sheet, 0, i) is not None:
                    self.assertEqual(len(chain(about, i, 0)), len(chain(sheet, 0, i)))

    def test_told_twice(self):
        row = Row(269)
        for sheet in standing_sheets(270):
            other = (sheet[0], sheet[1] * 2, sheet[2] + tuple((i, j, trimmed(scale)) for i, j, scale in sheet[2]))
            self.same_levels(sheet, other)
            self.assertEqual(fairest(other), fairest(sheet))
            one, two = [plainly.some_layout(sheet, drawn_places(row, sheet[0])) for _ in range(2)]
            self.assertEqual(fairer(other, one, two), fairer(sheet, one, two))
            self.assertEqual(ease_row(other, one), tuple(own for own in ease_row(sheet, one) for _ in range(2)))
            self.assertEqual(unlike_cuts(other, one), unlike_cuts(sheet, one))

    def test_a_rule_put_in_that_follows_from_others(self):
        row, seen = Row(272), 0
        for sheet in standing_sheets(273):
            things = shuffled(row, range(sheet[0]))[:2]
            far = hard_gap(sheet, *things) if len(things) == 2 else None
            if far is not None:
                seen += 1
                less = pair(Fraction(*far) - row.below(2))
                self.laid_alike(sheet, (sheet[0], sheet[1] + ((things[0], things[1], less),), sheet[2]))
            for i, j, scale in sheet[2]:
                # At least as much ease for each gap.
                above = tuple((gap, pair(Fraction(*ease) + 1)) for gap, ease in scale)
                self.laid_alike(sheet, (sheet[0], sheet[1], ((i, j, above),) + sheet[2]))
        self.assertGreater(seen, 20)

    def laid_alike(self, sheet, other):
        self.assertIs(stands(other), True)
        self.assertEqual(fairest(other), fairest(sheet))
        self.assertEqual(top_level(other), top_level(sheet))
        self.assertIs(all_like(other, fairest(sheet)), True)
        for cut in plainly.all_cuts(sheet):
            if len(other[1]) > len(sheet[1]):
                continue
            some = moved_on(fairest(sheet), cut, (1, 7))
            if is_layout(sheet, some):
                self.assertEqual(is_like(other, some, cut), is_like(sheet, some, cut))

    def test_an_example(self):
        frame = (3, ((2, 0, (-4, 1)),), ((0, 1, PLAIN), (1, 2, PLAIN)))
        self.assertEqual(fairest((3, frame[1] * 3, frame[2] * 3)), fairest(frame))
        self.assertEqual(fairest((3, frame[1] + ((2, 0, (-7, 1)), (1, 1 - 1, (-4, 1))), frame[2])), fairest(frame))


if __name__ == "__main__":
    unittest.main()
