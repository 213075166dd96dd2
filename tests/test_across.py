"""What holds across the sections: a SHEET told in another way is laid the same way."""

import unittest
from fractions import Fraction

import plainly
from drawn import PLAIN, Row, drawn_places, drawn_round_sheets, drawn_sheets, pair

from likecuts.apart import alike_widths, first_apart
from likecuts.cuts import all_like, best_step, is_like, moved_on, unlike_cuts
from likecuts.edits import edited, moves, spread
from likecuts.fractions import minus, order
from likecuts.layouts import ease_row, eases, fairer, is_layout
from likecuts.levels import top_level
from likecuts.lots import lots_at, tie
from likecuts.rates import is_bend, rates_back, rates_on, reach_back, reach_on
from likecuts.reasons import reasons_many, unreasoned
from likecuts.scales import shifted, trimmed
from likecuts.sheets import chain, hard_gap, hung_lots, spans, stands
from likecuts.towers import fairest, first_lots, levels_of
from likecuts.widths import bends, is_free, is_table, laid_at, least_width, lines_of, sheet_at, table


def turned_about(row, sheet, mark):
    """The SHEET with its RULES of each word in another order, and the mark of this RULE there."""
    rules, orders = [], {}
    for word, some in zip(("hard", "ease"), sheet[1:]):
        orders[word] = shuffled(row, range(len(some)))
        rules.append(tuple(some[k] for k in orders[word]))
    return (sheet[0], rules[0], rules[1]), (mark[0], orders[mark[0]].index(mark[1]))


def standing_sheets(seed, many=70):
    some = [(1, (), ())] + drawn_sheets(seed, many, 4) + drawn_round_sheets(seed + 1, many)
    return [sheet for sheet in some if plainly.does_stand(sheet)]


def shuffled(row, some):
    left, found = list(some), []
    while left:
        found.append(left.pop(row.below(len(left))))
    return found


def told_anew(places):
    return tuple(pair(own - places[0]) for own in places)


def in_order(lots):
    return sorted(tuple(sorted(lot)) for lot in lots)


class Told(unittest.TestCase):
    def same_levels(self, sheet, other):
        self.assertIs(stands(other), True)
        self.assertEqual(levels_of(other), levels_of(sheet))
        self.assertEqual(top_level(other), top_level(sheet))

    def test_things_named_otherwise(self):
        row = Row(260)
        for sheet in standing_sheets(261):
            names = shuffled(row, range(sheet[0]))
            other = (sheet[0],) + tuple(tuple((names[i], names[j], told) for i, j, told in rules)
                                        for rules in sheet[1:])
            self.same_levels(sheet, other)
            layout, places = fairest(sheet), [None] * sheet[0]
            for thing, name in enumerate(names):
                places[name] = Fraction(*layout[thing])
            self.assertEqual(fairest(other), told_anew(places))
            self.assertEqual(eases(other, fairest(other)), eases(sheet, layout))
            self.assertEqual(in_order(first_lots(other)),
                             in_order([names[own] for own in lot] for lot in first_lots(sheet)))
            self.assertEqual(in_order(hung_lots(other)), [tuple(range(sheet[0]))])
            for ease in eases(sheet, layout):
                lots = in_order([names[own] for own in lot] for lot in lots_at(sheet, ease))
                self.assertEqual(in_order(lots_at(other, ease)), lots)
            for i in range(sheet[0]):
                self.assertEqual(hard_gap(other, names[0], names[i]), hard_gap(sheet, 0, i))
                self.assertEqual(tie(other, names[0], names[i]), tie(sheet, 0, i))
            for k in range(len(sheet[2])):
                self.assertEqual(reasons_many(other, k), reasons_many(sheet, k))

    def test_moved(self):
        row = Row(263)
        for sheet in standing_sheets(264):
            by = [pair(own) for own in drawn_places(row, sheet[0])]
            hard = tuple((i, j, pair(Fraction(*far) + Fraction(*by[j]) - Fraction(*by[i]))) for i, j, far in sheet[1])
            counted = tuple((i, j, shifted(scale, minus(by[j], by[i]))) for i, j, scale in sheet[2])
            other = (sheet[0], hard, counted)
            self.same_levels(sheet, other)
            some = plainly.some_layout(sheet, drawn_places(row, sheet[0]))
            for layout in (fairest(sheet), some):
                places = told_anew([Fraction(*own) + Fraction(*far) for own, far in zip(layout, by)])
                self.assertIs(is_layout(other, places), True)
                self.assertEqual(eases(other, places), eases(sheet, layout))
                self.assertEqual(unlike_cuts(other, places), unlike_cuts(sheet, layout))
                self.assertEqual(unreasoned(other, places), unreasoned(sheet, layout))
                for cut in plainly.all_cuts(sheet):
                    self.assertEqual(best_step(other, places, cut), best_step(sheet, layout, cut))
                self.assertEqual(places == fairest(other), layout == fairest(sheet))

    def test_rules_turned_about(self):
        row = Row(266)
        for sheet in standing_sheets(267):
            # In another order, and each from its j to its i: then all lie the other way about.
            hard, counted = shuffled(row, sheet[1]), shuffled(row, sheet[2])
            other = (sheet[0], tuple(hard), tuple(counted))
            self.same_levels(sheet, other)
            self.assertEqual(fairest(other), fairest(sheet))
            self.assertEqual(spans(other), spans(sheet))
            self.assertEqual(first_lots(other), first_lots(sheet))
            about = (sheet[0],) + tuple(tuple((j, i, told) for i, j, told in rules) for rules in other[1:])
            self.same_levels(sheet, about)
            self.assertEqual(fairest(about), tuple((-top, bottom) for top, bottom in fairest(sheet)))
            for i in range(sheet[0]):
                self.assertEqual(hard_gap(about, i, 0), hard_gap(sheet, 0, i))
                if hard_gap(sheet, 0, i) is not None:
                    self.assertEqual(len(chain(about, i, 0)), len(chain(sheet, 0, i)))

    def test_told_twice(self):
        row = Row(269)
        for sheet in standing_sheets(270):
            other = (sheet[0], sheet[1] * 2, sheet[2] + tuple((i, j, trimmed(scale)) for i, j, scale in sheet[2]))
            self.same_levels(sheet, other)
            self.assertEqual(fairest(other), fairest(sheet))
            one, two = [plainly.some_layout(sheet, drawn_places(row, sheet[0])) for _ in range(2)]
            self.assertEqual(fairer(other, one, two), fairer(sheet, one, two))
            self.assertEqual(ease_row(other, one), tuple(own for own in ease_row(sheet, one) for _ in range(2)))
            self.assertEqual(unlike_cuts(other, one), unlike_cuts(sheet, one))

    def test_a_rule_put_in_that_follows_from_others(self):
        row, seen = Row(272), 0
        for sheet in standing_sheets(273):
            things = shuffled(row, range(sheet[0]))[:2]
            far = hard_gap(sheet, *things) if len(things) == 2 else None
            if far is not None:
                seen += 1
                less = pair(Fraction(*far) - row.below(2))
                self.laid_alike(sheet, (sheet[0], sheet[1] + ((things[0], things[1], less),), sheet[2]))
            for i, j, scale in sheet[2]:
                # At least as much ease for each gap.
                above = tuple((gap, pair(Fraction(*ease) + 1)) for gap, ease in scale)
                self.laid_alike(sheet, (sheet[0], sheet[1], ((i, j, above),) + sheet[2]))
        self.assertGreater(seen, 20)

    def laid_alike(self, sheet, other):
        self.assertIs(stands(other), True)
        self.assertEqual(fairest(other), fairest(sheet))
        self.assertEqual(top_level(other), top_level(sheet))
        self.assertIs(all_like(other, fairest(sheet)), True)
        for cut in plainly.all_cuts(sheet):
            if len(other[1]) > len(sheet[1]):
                continue
            some = moved_on(fairest(sheet), cut, (1, 7))
            if is_layout(sheet, some):
                self.assertEqual(is_like(other, some, cut), is_like(sheet, some, cut))

    def test_an_example(self):
        frame = (3, ((2, 0, (-4, 1)),), ((0, 1, PLAIN), (1, 2, PLAIN)))
        self.assertEqual(fairest((3, frame[1] * 3, frame[2] * 3)), fairest(frame))
        self.assertEqual(fairest((3, frame[1] + ((2, 0, (-7, 1)), (1, 0, (-4, 1))), frame[2])), fairest(frame))


class Moved(unittest.TestCase):
    """Rates, widths and EDITS tell of the same LAYOUTS."""

    def test_a_rule_told_by_more_is_a_width_less(self):
        row, seen = Row(281), 0
        for sheet in standing_sheets(282):
            for place in range(len(sheet[1])):
                if not is_free(sheet, place):
                    continue
                far = row.fraction()
                width = minus((0, 1), sheet[1][place][2])
                self.assertEqual(sheet_at(sheet, place, width), sheet)
                edit = ("more", ("hard", place), far)
                self.assertEqual(edited(sheet, edit), sheet_at(sheet, place, minus(width, far)))
                low = least_width(sheet, place)
                if low is not None and order(minus(width, far), low) < 0:
                    continue
                seen += 1
                self.assertEqual(laid_at(sheet, place, width), fairest(sheet))
                told = [minus(new, old) for old, new in zip(fairest(sheet), laid_at(sheet, place, minus(width, far)))]
                self.assertEqual(moves(sheet, edit), tuple(told))
                self.assertLessEqual(Fraction(*spread(sheet, edit)), abs(Fraction(*far)))
        self.assertGreater(seen, 60)

    def test_rates_are_slopes_of_lines(self):
        seen = set()
        for sheet in standing_sheets(284, 40):
            for place in range(len(sheet[1])):
                if not is_free(sheet, place):
                    continue
                width, mark = minus((0, 1), sheet[1][place][2]), ("hard", place)
                rows = [row for row in lines_of(sheet, place) if self.has(row, width)]
                seen.add(len(rows))
                # Back is wider: the last row that has the width goes on from there; on is less wide.
                back = tuple(line[1] for line in rows[-1][2])
                self.assertEqual(tuple(minus((0, 1), rate) for rate in rates_back(sheet, mark)), back)
                end = rows[-1][1]
                self.assertEqual(reach_back(sheet, mark), None if end is None else minus(end, width))
                if rows[0][0] != width:
                    on = tuple(minus((0, 1), line[1]) for line in rows[0][2])
                    self.assertEqual(rates_on(sheet, mark), on)
                    first = rows[0][0]
                    self.assertEqual(reach_on(sheet, mark), None if first is None else minus(width, first))
                self.assertIs(is_bend(sheet, mark), width in bends(sheet, place))
        self.assertEqual(seen, {1, 2})

    def has(self, row, width):
        return (row[0] is None or order(row[0], width) <= 0) and (row[1] is None or order(width, row[1]) <= 0)

    def test_told_in_another_way(self):
        row = Row(286)
        for sheet in standing_sheets(287, 30):
            for place in range(len(sheet[1])):
                other, mark = turned_about(row, sheet, ("hard", place))
                twice = (sheet[0], sheet[1], sheet[2] + sheet[2])
                self.assertIs(is_free(other, mark[1]), is_free(sheet, place))
                if is_free(sheet, place):
                    self.assertEqual(lines_of(other, mark[1]), lines_of(sheet, place))
                    self.assertIs(alike_widths(sheet, place, other, mark[1]), True)
                    self.assertIs(first_apart(twice, place, other, mark[1]), None)
                    self.assertIs(is_table(sheet, place, table(sheet, place)), True)
            for k in range(len(sheet[2])):
                other, mark = turned_about(row, sheet, ("ease", k))
                self.assertEqual(rates_on(other, mark), rates_on(sheet, ("ease", k)))
                self.assertEqual(reach_back(other, mark), reach_back(sheet, ("ease", k)))


if __name__ == "__main__":
    unittest.main()
