"""[2], [3], [17]: PARTS, against all sets of THINGS, and each by itself against the whole."""

import time
import unittest
from fractions import Fraction
from itertools import combinations

import plainly
from drawn import (ODD_THINGS, PLAIN, Row, big_sheet, drawn_lot_sheet, drawn_round_sheets, drawn_sheets, listed, pair)

from likecuts.errors import Afloat, CanNot, Loose, NoPlace, NoRoom, Unfit
from likecuts.parts import (by_parts, cut_out, held, is_part, is_part_bar, least_parts, part_bar, part_layout,
                            part_names, part_sheet, parting_pairs, put_together)
from likecuts.sheets import is_sheet, stands
from likecuts.towers import fairest

NET = (4, ((3, 0, (-4, 1)),), ((0, 1, PLAIN), (1, 3, PLAIN), (0, 2, PLAIN), (2, 3, PLAIN)))
FRAME = (3, ((2, 0, (-4, 1)),), ((0, 1, PLAIN), (1, 2, PLAIN)))
LONE = (1, (), ())
PAIR = (2, ((1, 0, (-4, 1)),), ((0, 1, PLAIN),))
LOOSE, FLOATING = (2, (), ((0, 1, PLAIN),)), (3, (), ((0, 1, PLAIN), (1, 0, PLAIN)))
SHUT = (3, ((0, 1, (2, 1)), (1, 0, (-1, 1))), ((0, 1, PLAIN), (1, 0, PLAIN)))


def lot_sheets(seed, many=60):
    row = Row(seed)
    return [drawn_lot_sheet(row) for _ in range(many)]


def many_sheets(seed, many=60):
    some = [LONE, PAIR, NET, FRAME, LOOSE, FLOATING, SHUT]
    return some + lot_sheets(seed, many) + drawn_sheets(seed + 1, many) + drawn_round_sheets(seed + 2, many)


def pairs_of(sheet):
    return [(a, b) for a in range(sheet[0]) for b in range(sheet[0]) if a != b]


class Parts(unittest.TestCase):
    def test_against_all_sets(self):
        seen = set()
        for sheet in many_sheets(401):
            parting = []
            for a, b in pairs_of(sheet):
                every, least = plainly.parts_of(sheet, a, b), plainly.least_parts(sheet, a, b)
                seen.add((len(every), len(least)))
                self.assertEqual(least_parts(sheet, a, b), least)
                self.assertEqual(least_parts(b=b, a=a, sheet=listed(sheet)), least)
                if a < b and len(least) > 1:
                    parting.append((a, b))
                for many in range(sheet[0] + 1):
                    for lot in combinations(range(sheet[0]), many):
                        self.assertIs(is_part(sheet, a, b, lot), lot in every)
                for lot in every:
                    self.assertIs(is_part(thing=lot, b=b, a=a, sheet=listed(sheet)), True)
                    self.assertIs(is_part(sheet, a, b, list(lot)), False)
                    self.assertIs(is_part(sheet, a, b, lot[::-1]), False)
                    self.assertIs(is_part(sheet, a, b, lot + lot[-1:]), False)
                # What the least ones have in common are a and b alone.
                for one, other in combinations(least, 2):
                    self.assertEqual(set(one) & set(other), {a, b})
            self.assertEqual(parting_pairs(sheet), parting)
            self.assertEqual(parting_pairs(sheet=listed(sheet)), parting)
        self.assertTrue({(0, 0), (1, 1), (3, 2), (7, 3)} <= seen)

    def test_edges(self):
        self.assertEqual((parting_pairs(LONE), parting_pairs(PAIR), least_parts(PAIR, 1, 0)), ([], [], []))
        self.assertEqual(least_parts(FRAME, 0, 2), [(0, 1, 2)])
        self.assertEqual(parting_pairs(FRAME), [])
        # A PART of all THINGS, and RULES of a and b alone, that part nothing.
        self.assertIs(is_part(NET, 0, 3, (0, 1, 2, 3)), True)
        self.assertEqual(least_parts(NET, 1, 0), [(0, 1, 2, 3)])
        more = (4, NET[1] + ((0, 3, (1, 1)),), NET[2] + ((3, 0, PLAIN),))
        self.assertEqual(least_parts(more, 3, 0), [(0, 1, 3), (0, 2, 3)])
        # A THING without RULES is a PART with any two.
        bare = (4, (), ())
        self.assertEqual(least_parts(bare, 1, 2), [(0, 1, 2), (1, 2, 3)])
        self.assertEqual(len(parting_pairs(bare)), 6)
        self.assertEqual([lot for many in range(5) for lot in combinations(range(4), many) if is_part(bare, 1, 2, lot)],
                         [(0, 1, 2), (1, 2, 3), (0, 1, 2, 3)])

    def test_bars(self):
        seen = set()
        for sheet in many_sheets(404):
            for a, b in pairs_of(sheet):
                for lot in plainly.lots_with(sheet, a, b):
                    bars = plainly.bars_of_lot(sheet, a, b, lot)
                    seen.add(bool(bars))
                    if bars:
                        self.assertEqual(part_bar(sheet, a, b, lot), min(bars))
                        self.assertEqual(part_bar(lot=list(lot), b=b, a=a, sheet=listed(sheet)), min(bars))
                    else:
                        with self.assertRaises(CanNot) as caught:
                            part_bar(sheet, a, b, list(lot))
                        self.assertEqual(vars(caught.exception), {})
                    for mark in plainly.marks(sheet):
                        self.assertIs(is_part_bar(sheet, a, b, lot, mark), mark in bars)
                        self.assertIs(is_part_bar(sheet, a, b, lot, list(mark)), False)
                    for mark in bars[:1]:
                        self.assertIs(is_part_bar(thing=mark, lot=list(lot), b=b, a=a, sheet=listed(sheet)), True)
        self.assertEqual(seen, {True, False})

    def test_no_other_thing(self):
        self.assertIs(is_part(NET, 0, 3, (0, 1, 3)), True)
        self.assertIs(is_part_bar(NET, 0, 1, (0, 1, 2), ("ease", 3)), True)
        wrong = ((0, True, 3), (False, 1, 3), (0, 1, 3, 4), (0, 1, 2), (1, 2, 3), (0, 3), (0, 1, 1, 3), (1, 0, 3),
                 [0, 1, 3], (0, 1, 3, 3), (0, "1", 3), (0, (1,), 3), (-1, 0, 1, 3), (0, None, 3))
        for thing in ODD_THINGS + wrong:
            self.assertIs(is_part(NET, 0, 3, thing), False, thing)
            self.assertIs(is_part(LOOSE, 0, 1, thing), False)
        wrong = (("ease", 2), ("ease", 0), ("hard", 0), ("ease", 4), ("ease", -1), ["ease", 3], ("ease", 3, 0), "ease",
                 ("ease", "3"), ("ease", (3,)), ("soft", 3), (("ease", 3),), 3)
        for thing in ODD_THINGS + wrong:
            self.assertIs(is_part_bar(NET, 0, 1, (0, 1, 2), thing), False, thing)
            self.assertIs(is_part_bar(NET, 0, 3, (0, 1, 3), thing), False, thing)
        # Greater than the bounds.
        wide = (40, (), tuple((0, own, PLAIN) for own in range(2, 40)))
        self.assertIs(is_part(wide, 0, 1, tuple(range(40))), True)
        self.assertIs(is_part(wide, 0, 1, tuple(range(39))), True)
        self.assertIs(is_part(wide, 1, 2, tuple(range(39))), False)


class ByThemselves(unittest.TestCase):
    def test_told_anew(self):
        row, seen = Row(411), set()
        for sheet in many_sheets(412):
            layout = plainly.some_layout(sheet, [Fraction(row.between(-9, 9), 2) for _ in range(sheet[0])])
            for a, b in pairs_of(sheet):
                far, every = row.fraction(), plainly.parts_of(sheet, a, b)
                self.assertEqual(held(sheet, a, b, far), plainly.with_gap(sheet, a, b, Fraction(*far)))
                self.assertEqual(held(far=list(far), b=b, a=a, sheet=listed(sheet)), held(sheet, a, b, far))
                for lot in plainly.lots_with(sheet, a, b):
                    names = tuple(plainly.names_in(a, lot))
                    self.assertEqual(part_names(a, lot), names)
                    self.assertEqual(part_names(part=list(lot), a=a), names)
                    self.assertEqual(cut_out(layout, a, lot), plainly.told_from(layout, names))
                    self.assertEqual(cut_out(part=list(lot), a=a, layout=listed(layout)), cut_out(layout, a, lot))
                    seen.add(self.one_lot(sheet, a, b, lot, far, lot in every))
        self.assertEqual(seen, {True, False})
        self.assertEqual((part_names(2, (2,)), cut_out(((0, 1), (7, 2)), 1, (0, 1))), ((2,), ((0, 1), (-7, 2))))

    def one_lot(self, sheet, a, b, lot, far, is_one):
        if is_one:
            own = plainly.by_itself(sheet, a, b, lot, Fraction(*far))
            self.assertEqual(part_sheet(sheet, a, b, lot, far), own)
            self.assertEqual(part_sheet(far=list(far), part=list(lot), b=b, a=a, sheet=listed(sheet)), own)
            self.assertTrue(is_sheet(own))
            return True
        for deed in (lambda: part_sheet(sheet, a, b, lot, far), lambda: part_layout(sheet, a, b, lot)):
            with self.assertRaises(Unfit) as caught:
                deed()
            self.assertEqual(vars(caught.exception), {})
        return False

    def test_each_lies_as_in_the_whole(self):
        seen = set()
        for sheet in many_sheets(415, 45):
            if not plainly.does_stand(sheet):
                continue
            layout = fairest(sheet)
            self.assertTrue(plainly.is_fairest(sheet, layout))
            for a, b in pairs_of(sheet):
                far = plainly.gap(layout, (a, b))
                for part in plainly.parts_of(sheet, a, b):
                    own = plainly.by_itself(sheet, a, b, part, far)
                    told = plainly.told_from(layout, plainly.names_in(a, part))
                    self.assertTrue(plainly.fairest_by(own, told))
                    self.assertEqual(part_layout(sheet, a, b, part), told)
                    self.assertEqual(part_layout(part=list(part), b=b, a=a, sheet=listed(sheet)), told)
                    self.assertEqual(fairest(part_sheet(sheet, a, b, part, pair(far))), told)
                    seen.add((sheet[0], len(part)))
        self.assertTrue({(3, 3), (4, 3), (4, 4), (5, 3), (5, 4), (5, 5)} <= seen)

    def test_the_whole_held_is_put_together_of_its_parts(self):
        row, seen = Row(417), set()
        for sheet in [NET, FRAME, PAIR] + lot_sheets(418, 12) + drawn_round_sheets(419, 8):
            is_one = plainly.does_stand(sheet)
            for a, b in pairs_of(sheet):
                at = plainly.gap(fairest(sheet), (a, b)) if is_one else Fraction(row.between(-3, 3))
                for far in (at, at + Fraction(row.between(-6, 6), 2)):
                    seen.add(self.one_far(sheet, a, b, far, is_one))
        self.assertTrue({True, NoRoom} <= seen)

    def one_far(self, sheet, a, b, far, is_one):
        whole = plainly.with_gap(sheet, a, b, far)
        does_stand = plainly.does_stand(whole)
        if is_one:
            self.assertEqual(does_stand, not plainly.without_room(whole))
        if not does_stand:
            with self.assertRaises((NoRoom, Loose, Afloat)) as caught:
                by_parts(sheet, a, b, pair(far))
            self.assertTrue(plainly.tells_why(whole, caught.exception))
            return caught.exception.__class__
        layout = by_parts(sheet, a, b, pair(far))
        self.assertTrue(plainly.is_fairest(whole, layout))
        self.assertEqual(by_parts(far=list(pair(far)), b=b, a=a, sheet=listed(sheet)), layout)
        told = []
        for part in plainly.least_parts(sheet, a, b):
            own = plainly.by_itself(sheet, a, b, part, far)
            self.assertTrue(plainly.does_stand(own))
            told.append(fairest(own))
        if told:
            self.assertEqual(put_together(sheet, a, b, tuple(told)), layout)
            self.assertEqual(put_together(layouts=listed(told), b=b, a=a, sheet=listed(sheet)), layout)
        return True


class Together(unittest.TestCase):
    def test_cut_out_and_put_together_again(self):
        row = Row(421)
        for sheet in lot_sheets(422, 40):
            layout = tuple(pair(Fraction(row.between(-9, 9), 2)) for _ in range(sheet[0]))
            for a, b in pairs_of(sheet):
                parts = plainly.least_parts(sheet, a, b)
                if not parts:
                    continue
                told = [cut_out(layout, a, part) for part in parts]
                own = plainly.told_from(layout, range(sheet[0]))
                self.assertEqual(put_together(sheet, a, b, tuple(told)), own)
                # Told from elsewhere, all of them alike.
                moved = [tuple(pair(Fraction(*place) + 7) for place in places) for places in told]
                self.assertEqual(put_together(sheet, a, b, moved), own)
                self.unfit(sheet, a, b, told, row)

    def unfit(self, sheet, a, b, told, row):
        at = row.below(len(told))
        for wrong in (told[at] + ((0, 1),), told[at][:-1], ()):
            with self.assertRaises(Unfit) as caught:
                put_together(sheet, a, b, told[:at] + [wrong] + told[at + 1:])
            self.assertEqual(vars(caught.exception), {})
        if len(told) > 1:
            part = plainly.least_parts(sheet, a, b)[at]
            for place in (0, plainly.names_in(a, part).index(b)):
                wrong = list(told[at])
                wrong[place] = pair(Fraction(*wrong[place]) + row.one_of((1, -1, Fraction(1, 5))))
                with self.assertRaises(Unfit):
                    put_together(sheet, a, b, told[:at] + [wrong] + told[at + 1:])

    def test_there_are_none(self):
        for a, b in ((0, 1), (1, 0)):
            with self.assertRaises(Unfit):
                put_together(PAIR, a, b, ())
            with self.assertRaises(Unfit):
                put_together(PAIR, a, b, [])
        # Fewer or more of them than there are PARTS.
        for many in (0, 1, 3):
            with self.assertRaises(Unfit):
                put_together(NET, 0, 3, (((0, 1), (1, 1), (4, 1)),) * many)
        # Lists for some tuples, not for others.
        mixed = [((0, 1), [1, 1], (4, 1)), [[0, 1], (3, 1), [4, 1]]]
        self.assertEqual(put_together(NET, 0, 3, mixed), ((0, 1), (1, 1), (3, 1), (4, 1)))
        # One alone, a or b wherever it is told.
        self.assertEqual(put_together(FRAME, 0, 2, (((5, 1), (6, 1), (9, 1)),)), ((0, 1), (1, 1), (4, 1)))
        self.assertEqual(put_together(FRAME, 2, 0, (((5, 1), (6, 1), (9, 1)),)), ((0, 1), (3, 1), (-1, 1)))


class Errors(unittest.TestCase):
    def calls(self, sheet, a, b):
        lot = tuple(sorted({a, b, 1}))
        return [lambda: is_part(sheet, a, b, lot), lambda: least_parts(sheet, a, b), lambda: part_bar(sheet, a, b, lot),
                lambda: is_part_bar(sheet, a, b, lot, None), lambda: part_sheet(sheet, a, b, lot, (1, 1)),
                lambda: held(sheet, a, b, (1, 1)), lambda: part_layout(sheet, a, b, lot),
                lambda: by_parts(sheet, a, b, (1, 1)), lambda: put_together(sheet, a, b, ())]

    def test_no_place_then_unfit_ahead_of_all(self):
        for sheet in (FRAME, LOOSE, FLOATING, SHUT):
            many = sheet[0]
            for a, b, place in ((many, 0, many), (-1, many, -1), (0, many, many), (0, -1, -1), (many, many, many),
                                (99, -99, 99)):
                for call in self.calls(sheet, a, b):
                    with self.assertRaises(NoPlace) as caught:
                        call()
                    self.assertEqual(vars(caught.exception), {"place": place})
            for call in self.calls(sheet, 1, 1):
                with self.assertRaises(Unfit) as caught:
                    call()
                self.assertEqual(vars(caught.exception), {})

    def test_whatever_thing_is(self):
        for thing in ODD_THINGS:
            with self.assertRaises(NoPlace):
                is_part(FRAME, 3, 3, thing)
            with self.assertRaises(Unfit):
                is_part(FRAME, 2, 2, thing)
            with self.assertRaises(NoPlace):
                is_part_bar(FRAME, 0, -1, (0, 1, 2), thing)
            with self.assertRaises(Unfit):
                is_part_bar(FRAME, 0, 0, (0, 1, 2), thing)

    def test_no_part_ahead_of_a_sheet_that_does_not_stand(self):
        loose = (4, (), ((0, 1, PLAIN), (1, 2, PLAIN), (2, 3, PLAIN)))
        for wrong in ((0, 2), (0, 1, 2, 3, 4), (1, 2, 3), (0, 1, 1, 2), (2, 1, 0), (0, 1, 2), ()):
            with self.assertRaises(Unfit):
                part_layout(loose, 0, 2, wrong) if wrong != (0, 1, 2) else part_layout(loose, 0, 1, wrong)
            with self.assertRaises(Unfit):
                part_sheet(loose, 0, 2, wrong, (1, 1)) if wrong != (0, 1, 2) else part_sheet(loose, 0, 1, wrong, (1, 1))
        with self.assertRaises(Loose) as caught:
            part_layout(loose, 0, 2, (0, 1, 2))
        self.assertIn(caught.exception.lot, plainly.loose_lots(loose))
        with self.assertRaises(NoRoom) as caught:
            part_layout(SHUT, 0, 1, [0, 1, 2])
        self.assertEqual(sorted(caught.exception.ring), [("hard", 0), ("hard", 1)])
        with self.assertRaises(Afloat) as caught:
            part_layout(FLOATING, 0, 1, (0, 1, 2))
        self.assertEqual(caught.exception.lot, (2,))
        # A SHEET that stands only held.
        self.assertEqual(by_parts(LOOSE, 0, 1, (3, 1)), ((0, 1), (3, 1)))
        with self.assertRaises(Afloat):
            by_parts(FLOATING, 0, 1, (3, 1))
        self.assertEqual(by_parts(FLOATING, 1, 2, (3, 1)), ((0, 1), (0, 1), (3, 1)))
        with self.assertRaises(NoRoom):
            by_parts(FRAME, 0, 2, (5, 1))

    def test_each_list_is_new_and_arguments_stay(self):
        sheet, far, lot, places = listed(NET), [3, 1], [0, 1, 3], listed((((0, 1), (1, 1), (4, 1)),) * 2)
        least_parts(sheet, 0, 3).append(None)
        parting_pairs(sheet).append(None)
        self.assertEqual((least_parts(sheet, 0, 3), parting_pairs(sheet)), ([(0, 1, 3), (0, 2, 3)], [(0, 3)]))
        part_names(0, lot), part_sheet(sheet, 0, 3, lot, far), held(sheet, 0, 3, far), part_layout(sheet, 0, 3, lot)
        by_parts(sheet, 0, 3, far), put_together(sheet, 0, 3, places), cut_out(places[0], 0, [0, 1])
        self.assertEqual((sheet, far, lot, places),
                         (listed(NET), [3, 1], [0, 1, 3], listed((((0, 1), (1, 1), (4, 1)),) * 2)))

    def test_each_call_comes_to_an_end_in_seconds(self):
        row, start = Row(425), time.monotonic()
        for _ in range(4):
            sheet = big_sheet(row)
            parting_pairs(sheet)
            for a, b in pairs_of(sheet):
                for part in least_parts(sheet, a, b):
                    if stands(sheet):
                        own = part_sheet(sheet, a, b, part, (0, 1))
                        self.assertEqual(len(part_layout(sheet, a, b, part)), own[0])
        self.assertLess(time.monotonic() - start, 40)


if __name__ == "__main__":
    unittest.main()
