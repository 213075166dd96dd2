"""What holds across the sections: a SHEET told in another way is laid the same way."""

import unittest
from fractions import Fraction

import plainly
from drawn import PLAIN, Row, drawn_lot_sheet, drawn_places, drawn_plans, drawn_round_sheets, drawn_sheets, pair

from likecuts.apart import alike_widths, first_apart
from likecuts.boxes import boxes_of, eases_of, laid, marks_by, saying_of, sheet_of
from likecuts.cuts import all_like, best_step, complaint, is_like, is_unlike_cut, leaving, moved_on, unlike_cuts
from likecuts.desk import desk
from likecuts.edits import edited, moves, moves_nothing, spread
from likecuts.floors import fairest_floor, floor_steps, floored, floors, is_mean
from likecuts.fractions import minus, order
from likecuts.idle import (bypass, felt_marks, idle_hard, is_felt, is_unfelt_witness, laid_without, lean_sheet,
                           unfelt_witness)
from likecuts.judge import is_paper_against, is_paper_for, is_so, paper, verdicts
from likecuts.layouts import ease_row, eases, fairer, is_layout, mix_of
from likecuts.levels import top_level
from likecuts.lots import lots_at, tie
from likecuts.parts import cut_out, held, least_parts, part_names, part_sheet
from likecuts.rates import is_bend, rates_back, rates_on, reach_back, reach_on
from likecuts.reasons import held_by, is_reason, reason, reasons_many, unreasoned
from likecuts.scales import shifted, trimmed
from likecuts.sheets import chain, hard_gap, hung_lots, ring_far, rule_of, spans, stands
from likecuts.texts import (layout_read, layout_text, plan_read, plan_text, sheet_read, sheet_text, table_read,
                            table_text)
from likecuts.towers import fairest, first_lots, levels_of, tower
from likecuts.widths import bends, is_free, is_table, laid_at, least_width, lines_of, sheet_at, table


def turned_about(row, sheet, mark):
    """The SHEET with its RULES of each word in another order, and the mark of this RULE there."""
    rules, orders = [], {}
    for word, some in zip(("hard", "ease"), sheet[1:]):
        orders[word] = shuffled(row, range(len(some)))
        rules.append(tuple(some[k] for k in orders[word]))
    return (sheet[0], rules[0], rules[1]), (mark[0], orders[mark[0]].index(mark[1]))


def standing_sheets(seed, many=70):
    some = [(1, (), ())] + drawn_sheets(seed, many, 4) + drawn_round_sheets(seed + 1, many)
    return [sheet for sheet in some if plainly.does_stand(sheet)]


def shuffled(row, some):
    left, found = list(some), []
    while left:
        found.append(left.pop(row.below(len(left))))
    return found


def told_anew(places):
    return tuple(pair(own - places[0]) for own in places)


def in_order(lots):
    return sorted(tuple(sorted(lot)) for lot in lots)


class Told(unittest.TestCase):
    def same_levels(self, sheet, other):
        self.assertIs(stands(other), True)
        self.assertEqual(levels_of(other), levels_of(sheet))
        self.assertEqual(top_level(other), top_level(sheet))

    def test_things_named_otherwise(self):
        row = Row(260)
        for sheet in standing_sheets(261):
            names = shuffled(row, range(sheet[0]))
            other = (sheet[0],) + tuple(tuple((names[i], names[j], told) for i, j, told in rules)
                                        for rules in sheet[1:])
            self.same_levels(sheet, other)
            layout, places = fairest(sheet), [None] * sheet[0]
            for thing, name in enumerate(names):
                places[name] = Fraction(*layout[thing])
            self.assertEqual(fairest(other), told_anew(places))
            self.assertEqual(eases(other, fairest(other)), eases(sheet, layout))
            self.assertEqual(in_order(first_lots(other)),
                             in_order([names[own] for own in lot] for lot in first_lots(sheet)))
            self.assertEqual(in_order(hung_lots(other)), [tuple(range(sheet[0]))])
            for ease in eases(sheet, layout):
                lots = in_order([names[own] for own in lot] for lot in lots_at(sheet, ease))
                self.assertEqual(in_order(lots_at(other, ease)), lots)
            for i in range(sheet[0]):
                self.assertEqual(hard_gap(other, names[0], names[i]), hard_gap(sheet, 0, i))
                self.assertEqual(tie(other, names[0], names[i]), tie(sheet, 0, i))
            for k in range(len(sheet[2])):
                self.assertEqual(reasons_many(other, k), reasons_many(sheet, k))

    def test_moved(self):
        row = Row(263)
        for sheet in standing_sheets(264):
            by = [pair(own) for own in drawn_places(row, sheet[0])]
            hard = tuple((i, j, pair(Fraction(*far) + Fraction(*by[j]) - Fraction(*by[i]))) for i, j, far in sheet[1])
            counted = tuple((i, j, shifted(scale, minus(by[j], by[i]))) for i, j, scale in sheet[2])
            other = (sheet[0], hard, counted)
            self.same_levels(sheet, other)
            some = plainly.some_layout(sheet, drawn_places(row, sheet[0]))
            for layout in (fairest(sheet), some):
                places = told_anew([Fraction(*own) + Fraction(*far) for own, far in zip(layout, by)])
                self.assertIs(is_layout(other, places), True)
                self.assertEqual(eases(other, places), eases(sheet, layout))
                self.assertEqual(unlike_cuts(other, places), unlike_cuts(sheet, layout))
                self.assertEqual(unreasoned(other, places), unreasoned(sheet, layout))
                for cut in plainly.all_cuts(sheet):
                    self.assertEqual(best_step(other, places, cut), best_step(sheet, layout, cut))
                self.assertEqual(places == fairest(other), layout == fairest(sheet))

    def test_rules_turned_about(self):
        row = Row(266)
        for sheet in standing_sheets(267):
            # In another order, and each from its j to its i: then all lie the other way about.
            hard, counted = shuffled(row, sheet[1]), shuffled(row, sheet[2])
            other = (sheet[0], tuple(hard), tuple(counted))
            self.same_levels(sheet, other)
            self.assertEqual(fairest(other), fairest(sheet))
            self.assertEqual(spans(other), spans(sheet))
            self.assertEqual(first_lots(other), first_lots(sheet))
            about = (sheet[0],) + tuple(tuple((j, i, told) for i, j, told in rules) for rules in other[1:])
            self.same_levels(sheet, about)
            self.assertEqual(fairest(about), tuple((-top, bottom) for top, bottom in fairest(sheet)))
            for i in range(sheet[0]):
                self.assertEqual(hard_gap(about, i, 0), hard_gap(sheet, 0, i))
                if hard_gap(sheet, 0, i) is not None:
                    self.assertEqual(len(chain(about, i, 0)), len(chain(sheet, 0, i)))

    def test_told_twice(self):
        row = Row(269)
        for sheet in standing_sheets(270):
            other = (sheet[0], sheet[1] * 2, sheet[2] + tuple((i, j, trimmed(scale)) for i, j, scale in sheet[2]))
            self.same_levels(sheet, other)
            self.assertEqual(fairest(other), fairest(sheet))
            one, two = [plainly.some_layout(sheet, drawn_places(row, sheet[0])) for _ in range(2)]
            self.assertEqual(fairer(other, one, two), fairer(sheet, one, two))
            self.assertEqual(ease_row(other, one), tuple(own for own in ease_row(sheet, one) for _ in range(2)))
            self.assertEqual(unlike_cuts(other, one), unlike_cuts(sheet, one))

    def test_a_rule_put_in_that_follows_from_others(self):
        row, seen = Row(272), 0
        for sheet in standing_sheets(273):
            things = shuffled(row, range(sheet[0]))[:2]
            far = hard_gap(sheet, *things) if len(things) == 2 else None
            if far is not None:
                seen += 1
                less = pair(Fraction(*far) - row.below(2))
                self.laid_alike(sheet, (sheet[0], sheet[1] + ((things[0], things[1], less),), sheet[2]))
            for i, j, scale in sheet[2]:
                # At least as much ease for each gap.
                above = tuple((gap, pair(Fraction(*ease) + 1)) for gap, ease in scale)
                self.laid_alike(sheet, (sheet[0], sheet[1], ((i, j, above),) + sheet[2]))
        self.assertGreater(seen, 20)

    def laid_alike(self, sheet, other):
        self.assertIs(stands(other), True)
        self.assertEqual(fairest(other), fairest(sheet))
        self.assertEqual(top_level(other), top_level(sheet))
        self.assertIs(all_like(other, fairest(sheet)), True)
        for cut in plainly.all_cuts(sheet):
            if len(other[1]) > len(sheet[1]):
                continue
            some = moved_on(fairest(sheet), cut, (1, 7))
            if is_layout(sheet, some):
                self.assertEqual(is_like(other, some, cut), is_like(sheet, some, cut))

    def test_an_example(self):
        frame = (3, ((2, 0, (-4, 1)),), ((0, 1, PLAIN), (1, 2, PLAIN)))
        self.assertEqual(fairest((3, frame[1] * 3, frame[2] * 3)), fairest(frame))
        self.assertEqual(fairest((3, frame[1] + ((2, 0, (-7, 1)), (1, 0, (-4, 1))), frame[2])), fairest(frame))


class Moved(unittest.TestCase):
    """Rates, widths and EDITS tell of the same LAYOUTS."""

    def test_a_rule_told_by_more_is_a_width_less(self):
        row, seen = Row(281), 0
        for sheet in standing_sheets(282):
            for place in range(len(sheet[1])):
                if not is_free(sheet, place):
                    continue
                far = row.fraction()
                width = minus((0, 1), sheet[1][place][2])
                self.assertEqual(sheet_at(sheet, place, width), sheet)
                edit = ("more", ("hard", place), far)
                self.assertEqual(edited(sheet, edit), sheet_at(sheet, place, minus(width, far)))
                low = least_width(sheet, place)
                if low is not None and order(minus(width, far), low) < 0:
                    continue
                seen += 1
                self.assertEqual(laid_at(sheet, place, width), fairest(sheet))
                told = [minus(new, old) for old, new in zip(fairest(sheet), laid_at(sheet, place, minus(width, far)))]
                self.assertEqual(moves(sheet, edit), tuple(told))
                self.assertLessEqual(Fraction(*spread(sheet, edit)), abs(Fraction(*far)))
        self.assertGreater(seen, 60)

    def test_rates_are_slopes_of_lines(self):
        seen = set()
        for sheet in standing_sheets(284, 40):
            for place in range(len(sheet[1])):
                if not is_free(sheet, place):
                    continue
                width, mark = minus((0, 1), sheet[1][place][2]), ("hard", place)
                rows = [row for row in lines_of(sheet, place) if self.has(row, width)]
                seen.add(len(rows))
                # Back is wider: the last row that has the width goes on from there; on is less wide.
                back = tuple(line[1] for line in rows[-1][2])
                self.assertEqual(tuple(minus((0, 1), rate) for rate in rates_back(sheet, mark)), back)
                end = rows[-1][1]
                self.assertEqual(reach_back(sheet, mark), None if end is None else minus(end, width))
                if rows[0][0] != width:
                    on = tuple(minus((0, 1), line[1]) for line in rows[0][2])
                    self.assertEqual(rates_on(sheet, mark), on)
                    first = rows[0][0]
                    self.assertEqual(reach_on(sheet, mark), None if first is None else minus(width, first))
                self.assertIs(is_bend(sheet, mark), width in bends(sheet, place))
        self.assertEqual(seen, {1, 2})

    def has(self, row, width):
        return (row[0] is None or order(row[0], width) <= 0) and (row[1] is None or order(width, row[1]) <= 0)

    def test_told_in_another_way(self):
        row = Row(286)
        for sheet in standing_sheets(287, 30):
            for place in range(len(sheet[1])):
                other, mark = turned_about(row, sheet, ("hard", place))
                twice = (sheet[0], sheet[1], sheet[2] + sheet[2])
                self.assertIs(is_free(other, mark[1]), is_free(sheet, place))
                if is_free(sheet, place):
                    self.assertEqual(lines_of(other, mark[1]), lines_of(sheet, place))
                    self.assertIs(alike_widths(sheet, place, other, mark[1]), True)
                    self.assertIs(first_apart(twice, place, other, mark[1]), None)
                    self.assertIs(is_table(sheet, place, table(sheet, place)), True)
            for k in range(len(sheet[2])):
                other, mark = turned_about(row, sheet, ("ease", k))
                self.assertEqual(rates_on(other, mark), rates_on(sheet, ("ease", k)))
                self.assertEqual(reach_back(other, mark), reach_back(sheet, ("ease", k)))


class Whole(unittest.TestCase):
    """LAYOUTS, floors and CUTS of one SHEET."""

    def test_floors_go_on_by_cuts_and_come_to_the_layout(self):
        row, seen = Row(581), set()
        for sheet in self.in_whole_points(582):
            for layout in (fairest(sheet), plainly.some_layout(sheet, drawn_places(row, sheet[0]))):
                rows = floors(sheet, layout)
                seen.add(len(rows))
                for (one, _), (two, _) in zip(rows, rows[1:]):
                    cut = tuple(k for k in range(sheet[0]) if one[k] != two[k])
                    self.assertEqual(moved_on(one, cut, (1, 1)), two)
                # The mean, mixed one floor behind the other.
                mean, so_far = rows[0][0], Fraction(*rows[0][1])
                for own, share in rows[1:]:
                    so_far += Fraction(*share)
                    mean = mix_of(sheet, mean, own, pair(Fraction(*share) / so_far))
                self.assertEqual((mean, so_far), (layout, 1))
                self.assertEqual(len(floor_steps(sheet, layout)), len(rows))
        self.assertTrue({1, 2, 3} <= seen)

    def test_none_in_whole_points_is_fairer_than_the_fairest(self):
        row = Row(584)
        for sheet in self.in_whole_points(585):
            layout, some = fairest(sheet), plainly.some_layout(sheet, drawn_places(row, sheet[0]))
            best = fairest_floor(sheet, some)
            for own, _ in floors(sheet, some):
                self.assertGreaterEqual(fairer(sheet, best, own), 0)
                self.assertGreaterEqual(fairer(sheet, layout, own), 0)
                self.assertEqual(fairer(sheet, layout, own) == 0, own == layout)
                self.assertEqual(own == layout, not unlike_cuts(sheet, own))
            self.assertGreaterEqual(fairer(sheet, layout, floored(sheet)), 0)
            self.assertEqual(floored(sheet) == layout, all(place[1] == 1 for place in layout))
            self.assertIs(is_mean(sheet, layout, tuple(floors(sheet, layout))), True)

    def in_whole_points(self, seed):
        """SHEETS that stand, all far of which are whole."""
        some = [(sheet[0], tuple((i, j, (Fraction(*far).__floor__(), 1)) for i, j, far in sheet[1]), sheet[2])
                for sheet in standing_sheets(seed)]
        return [sheet for sheet in some if stands(sheet)]


class Parted(unittest.TestCase):
    """CUTS, REASONS, idle RULES, EDITS and PARTS of one SHEET."""

    def parted(self, seed, many=40):
        """SHEETS that stand, each with two THINGS and a least PART of them."""
        row = Row(seed)
        for sheet in [drawn_lot_sheet(row) for _ in range(many)] + standing_sheets(seed + 1, 12):
            if plainly.does_stand(sheet):
                a, b = (row.below(sheet[0]), row.below(sheet[0])) if sheet[0] > 1 else (0, 0)
                for part in least_parts(sheet, a, b) if a != b else ():
                    yield sheet, a, b, part

    def test_cuts_within_a_part_are_like_in_it_as_in_the_whole(self):
        row, seen = Row(591), set()
        for sheet, a, b, part in self.parted(592):
            for layout in (fairest(sheet), plainly.some_layout(sheet, drawn_places(row, sheet[0]))):
                names = part_names(a, part)
                alone = part_sheet(sheet, a, b, part, pair(plainly.gap(layout, (a, b))))
                own = cut_out(layout, a, part)
                self.assertIs(is_layout(alone, own), True)
                for cut in plainly.all_cuts(sheet):
                    if not set(cut) <= set(part) - {a, b}:
                        continue
                    within = tuple(sorted(names.index(thing) for thing in cut))
                    seen.add(is_like(sheet, layout, cut))
                    self.assertIs(is_like(alone, own, within), is_like(sheet, layout, cut))
                    self.assertIs(is_unlike_cut(alone, own, within), is_unlike_cut(sheet, layout, cut))
                    if leaving(sheet, cut):
                        self.assertEqual(best_step(alone, own, within), best_step(sheet, layout, cut))
        self.assertEqual(seen, {True, False})

    def test_an_edit_within_a_part_of_what_is_held_moves_no_other_part(self):
        row, seen = Row(594), 0
        for sheet, a, b, part in self.parted(595):
            layout = fairest(sheet)
            whole = held(sheet, a, b, pair(plainly.gap(layout, (a, b))))
            self.assertEqual(fairest(whole), layout)
            for mark in plainly.marks(sheet):
                if not set(rule_of(sheet, mark)[:2]) <= set(part):
                    continue
                edit = ("more", mark, row.fraction(3))
                if not stands(edited(whole, edit)):
                    continue
                told = moves(whole, edit)
                others = [k for k in range(sheet[0]) if k not in part or k in (a, b)]
                self.assertEqual(len({told[k] for k in others}), 1)
                seen += 1
        self.assertGreater(seen, 60)

    def test_a_rule_is_felt_if_every_reason_has_it(self):
        seen = set()
        for sheet in standing_sheets(597, 40):
            layout, felt = fairest(sheet), felt_marks(sheet)
            rows = [held_by(sheet, k) for k in range(len(sheet[2]))]
            for mark in plainly.marks(sheet):
                others = [row for k, row in enumerate(rows) if mark != ("ease", k)]
                hang = len(hung_lots(edited(sheet, ("out", mark)))) == 1
                is_needed = not hang or any(mark in row for row in others)
                seen.add((mark in felt, mark[0]))
                self.assertEqual(mark in felt, is_needed)
                self.assertIs(is_felt(sheet, mark), is_needed)
                if mark not in felt:
                    self.assertIs(moves_nothing(sheet, ("out", mark)), True)
                    self.assertEqual(laid_without(sheet, mark), layout)
                    self.one_witness(sheet, layout, mark)
            self.assertEqual(fairest(lean_sheet(sheet)), layout)
            self.assertEqual(len(felt_marks(lean_sheet(sheet))), len(plainly.marks(lean_sheet(sheet))))
        self.assertEqual(len(seen), 4)

    def one_witness(self, sheet, layout, mark):
        told = unfelt_witness(sheet, mark)
        self.assertIs(is_unfelt_witness(sheet, mark, told), True)
        for k, ring in enumerate(told):
            if mark != ("ease", k):
                self.assertIs(is_reason(sheet, layout, k, ring), True)

    def test_an_idle_rule_can_be_told_more_up_to_its_bypass(self):
        seen = 0
        for sheet in standing_sheets(599):
            for k in idle_hard(sheet):
                i, j, far = sheet[1][k]
                seen += 1
                rest = edited(sheet, ("out", ("hard", k)))
                gap = hard_gap(rest, i, j)
                self.assertGreaterEqual(order(gap, far), 0)
                self.assertIs(moves_nothing(sheet, ("more", ("hard", k), minus(gap, far))), True)
                self.assertGreaterEqual(order(gap, ring_far(sheet, bypass(sheet, k))), 0)
                self.assertEqual(ring_far(rest, chain(rest, i, j)), gap)
                self.assertIs(is_felt(sheet, ("hard", k)), False)
        self.assertGreater(seen, 40)


class Written(unittest.TestCase):
    """PLANS, CLAIMS, texts and desks tell of the same SHEETS."""

    def test_texts_are_laid_alike(self):
        for sheet in standing_sheets(601, 30):
            own = sheet_read(sheet_text(sheet))
            self.assertEqual((own, layout_read(layout_text(fairest(own)))), (sheet, fairest(sheet)))
            for place in range(len(sheet[1])):
                if is_free(sheet, place):
                    self.assertIs(is_table(sheet, place, table_read(table_text(table(own, place)))), True)

    def test_plans(self):
        seen = 0
        for plan in drawn_plans(603, 70):
            own, sheet = plan_read(plan_text(plan)), sheet_of(plan)
            self.assertEqual((own, sheet_of(own)), (plan, sheet))
            for mark in plainly.marks(sheet):
                self.assertIn(mark, marks_by(plan, saying_of(plan, mark)))
                self.assertTrue(rule_of(sheet, mark))
            replies = desk("plan\n " + plan_text(plan).replace("\n", "\n ") + "\nlay\neases\nrules\nstands")
            self.assertEqual(replies[3:], [sheet_text(sheet), "yes" if stands(sheet) else "no"])
            if stands(sheet):
                seen += 1
                self.assertEqual(laid(plan), boxes_of(fairest(sheet)))
                self.assertEqual(boxes_of(layout_read(replies[1])), laid(plan))
                told = [ease for row in eases_of(plan) for ease in row]
                self.assertEqual(tuple(told), eases(sheet, fairest(sheet)))
                self.assertEqual(replies[2], layout_text(told)[7:] or "-")
            self.judged(sheet)
        self.assertGreater(seen, 25)

    def judged(self, sheet):
        claim = ("stands", sheet)
        own = paper(claim)
        self.assertEqual((is_so(claim), is_paper_for(claim, own), is_paper_against(claim, own)),
                         (stands(sheet), stands(sheet), not stands(sheet)))

    def test_claims(self):
        row = Row(605)
        for sheet in standing_sheets(606, 20):
            layout = plainly.some_layout(sheet, drawn_places(row, sheet[0]))
            claims = [("stands", sheet), ("fairest", sheet, fairest(sheet)), ("fairest", sheet, layout)]
            told = [tower(sheet), tuple(reason(sheet, k) for k in range(len(sheet[2])))]
            told.append(told[1] if layout == fairest(sheet) else complaint(sheet, layout))
            right = ["for", "for", "for" if layout == fairest(sheet) else "against"]
            self.assertEqual(verdicts(claims, told), right)
            for k in idle_hard(sheet):
                self.assertIs(is_paper_for(("idle", sheet, k), bypass(sheet, k)), True)
            top = top_level(sheet)
            if top is not None:
                self.assertEqual([is_so(("eased", sheet, own)) for own in (top, minus(top, (-1, 9)))], [True, False])

    def test_desks_do_what_the_functions_do(self):
        row = Row(608)
        for sheet in standing_sheets(609, 25):
            mark = row.one_of(plainly.marks(sheet)) if plainly.marks(sheet) else None
            if mark is None:
                continue
            far = row.fraction()
            word = " ".join(str(own) for own in mark)
            text = "sheet\n " + sheet_text(sheet).replace("\n", "\n ")
            replies = desk(f"{text}\nmore {word} {layout_text([far])[7:]}\nrules\nundo\nout {word}\nrules\nundo\nlay")
            self.assertEqual(sheet_read(replies[2]), edited(sheet, ("more", mark, far)))
            self.assertEqual(sheet_read(replies[5]), edited(sheet, ("out", mark)))
            self.assertEqual(replies[6:], ["out", layout_text(fairest(sheet))])


if __name__ == "__main__":
    unittest.main()
