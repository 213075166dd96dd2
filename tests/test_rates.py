"""[2], [3], [14]: rates, against the fairest LAYOUTS of SHEETS told by small e, by reach, and beyond it."""

import unittest
from fractions import Fraction

import plainly
from drawn import PLAIN, drawn_round_sheets, drawn_sheets, listed, pair

from likecuts.errors import Afloat, CanNot, Loose, NoPlace, NoRoom
from likecuts.rates import (ease_rates_back, ease_rates_on, is_bend, rates_back, rates_on, reach_back, reach_on)
from likecuts.reasons import reasons
from likecuts.towers import fairest

FRAME = (3, ((2, 0, (-4, 1)),), ((0, 1, PLAIN), (1, 2, PLAIN)))
NEAR = (3, FRAME[1] + ((0, 1, (3, 1)),), FRAME[2])
BRACED = (3, ((2, 0, (-6, 1)), (0, 1, (3, 1))), FRAME[2])
JUST = (2, ((0, 1, (2, 1)), (1, 0, (-2, 1))), ((0, 1, PLAIN),))
# 1 and 2 are held fast by nothing else.
HUNG = (3, ((1, 2, (2, 1)), (2, 1, (-2, 1))), ((0, 1, PLAIN), (1, 0, PLAIN)))
SMALL = (Fraction(1, 10 ** 7), Fraction(1, 10 ** 8), Fraction(1, 3 * 10 ** 9))


def many_sheets(seed, many=60):
    some = [FRAME, NEAR, BRACED, JUST, HUNG] + drawn_sheets(seed, many, 4) + drawn_round_sheets(seed + 1, many, 4)
    return [sheet for sheet in some if plainly.does_stand(sheet)]


def laid(sheet):
    """The fairest LAYOUT as it is by all CUTS; None if sheet does not stand."""
    if not plainly.does_stand(sheet):
        return None
    layout = fairest(sheet)
    assert plainly.is_fairest(sheet, layout)
    return layout


def gone(layout, rates, e):
    return tuple(pair(Fraction(*own) + Fraction(*rate) * e) for own, rate in zip(layout, rates))


class Rates(unittest.TestCase):
    def test_on_and_back(self):
        seen = set()
        for sheet in many_sheets(331):
            for mark in plainly.marks(sheet):
                on = self.one_way(sheet, mark, 1, (rates_on, ease_rates_on, reach_on))
                back = self.one_way(sheet, mark, -1, (rates_back, ease_rates_back, reach_back))
                bent = on is not None and back is not None and on != back
                self.assertIs(is_bend(sheet, mark), bent)
                self.assertIs(is_bend(mark=list(mark), sheet=listed(sheet)), bent)
                seen.add((mark[0], on is None, back is None, bent))
        self.assertTrue({("ease", False, False, True), ("ease", False, False, False), ("hard", True, False, False),
                         ("hard", False, False, True), ("hard", False, False, False),
                         ("hard", True, True, False)} <= seen, seen)
        self.assertTrue(all(not on and not back for word, on, back, _ in seen if word == "ease"))

    def one_way(self, sheet, mark, way, deeds):
        rates_of, ease_rates_of, reach_of = deeds
        if laid(plainly.told_more(sheet, mark, way * SMALL[0])) is None:
            for deed in deeds:
                with self.assertRaises(CanNot) as caught:
                    deed(sheet, mark)
                self.assertEqual(vars(caught.exception), {})
            return None
        rates, told = rates_of(sheet, mark), ease_rates_of(sheet, mark)
        self.assertEqual(rates_of(mark=list(mark), sheet=listed(sheet)), rates)
        self.assertEqual(ease_rates_of(mark=list(mark), sheet=listed(sheet)), told)
        layout = fairest(sheet)
        eases = plainly.eases(sheet, layout)
        for e in SMALL:
            other = plainly.told_more(sheet, mark, way * e)
            self.assertEqual(laid(other), gone(layout, rates, way * e))
            self.assertEqual(plainly.eases(other, fairest(other)),
                             [own + way * e * Fraction(*rate) for own, rate in zip(eases, told)])
        self.assertEqual(len(told), len(sheet[2]))
        quick = [Fraction(*rate) for rate in rates]
        i, j = plainly.rule(sheet, mark)[:2]
        self.assertLessEqual(max(quick) - min(quick), 1)
        self.assertEqual((quick[i], quick[j]), (min(quick), max(quick)))
        self.far(sheet, mark, way, rates, reach_of)
        return rates

    def far(self, sheet, mark, way, rates, reach_of):
        reach, layout = reach_of(sheet, mark), fairest(sheet)
        self.assertEqual(reach_of(mark=list(mark), sheet=listed(sheet)), reach)
        if reach is None:
            some = [Fraction(1, 7), Fraction(1), Fraction(53, 7), Fraction(1000), Fraction(10 ** 7)]
        else:
            self.assertGreater(reach, (0, 1))
            end = Fraction(*reach)
            some = [end, end / 2, end / 97, end * 96 / 97, end - SMALL[0] * end]
            beyond = plainly.told_more(sheet, mark, way * (end + end / 10 ** 6))
            self.assertNotEqual(laid(beyond), gone(layout, rates, way * (end + end / 10 ** 6)))
        for e in some:
            self.assertEqual(laid(plainly.told_more(sheet, mark, way * e)), gone(layout, rates, way * e))


class Edges(unittest.TestCase):
    def test_as_far_as_it_stands(self):
        # 2 lies at 9, and half way between is 1, until that is at 3.
        shut = (3, ((2, 0, (-9, 1)), (0, 1, (3, 1)), (1, 2, (0, 1))), FRAME[2])
        self.assertEqual(rates_on(shut, ("hard", 0)), ((0, 1), (-1, 2), (-1, 1)))
        self.assertEqual(reach_on(shut, ("hard", 0)), (3, 1))
        stiff = (2, ((0, 1, (2, 1)), (1, 0, (-5, 1))), ((0, 1, PLAIN),))
        # The THINGS lie as the rates tell to where it does not stand any more.
        self.assertEqual((rates_on(stiff, ("hard", 1)), reach_on(stiff, ("hard", 1))), (((0, 1), (-1, 1)), (3, 1)))
        self.assertEqual((rates_on(stiff, ("hard", 0)), reach_on(stiff, ("hard", 0))), (((0, 1), (0, 1)), (3, 1)))
        self.assertIsNone(reach_back(stiff, ("hard", 0)))
        self.assertIsNone(reach_back(stiff, ("hard", 1)))

    def test_as_far_as_it_stands_by_another_reason(self):
        # RULE 1 stands behind RULE 0 until it has more ease than that, with the frame at 4, and RULE 3 from there on;
        # then but 1 / 100 is left.
        quick = (((2, 1), (2, 1)), ((5, 1), (3, 1)))
        low = (((0, 1), (-99, 1)), ((1, 1), (-98, 1)))
        sheet = (3, ((2, 0, (-10, 1)), (0, 2, (399, 100))), ((0, 1, PLAIN), (1, 2, quick), (0, 1, low), (1, 2, low)))
        self.assertEqual(reasons(sheet)[0], (("ease", 0), ("ease", 1), ("hard", 0)))
        self.assertEqual(rates_on(sheet, ("hard", 0)), ((0, 1), (-1, 2), (-1, 1)))
        self.assertEqual(reach_on(sheet, ("hard", 0)), (601, 100))
        # Less than that is left at once.
        near = (3, ((2, 0, (-4, 1)),) + sheet[1][1:], sheet[2])
        self.assertEqual(reach_on(near, ("hard", 0)), (1, 100))
        self.assertEqual(rates_on(near, ("hard", 0)), ((0, 1), (-1, 2), (-1, 1)))

    def test_does_not_go(self):
        for mark in (("hard", 0), ("hard", 1)):
            for deed in (rates_on, ease_rates_on, reach_on, rates_back, ease_rates_back, reach_back):
                with self.assertRaises(CanNot):
                    deed(HUNG, mark)
            self.assertIs(is_bend(HUNG, mark), False)
        with self.assertRaises(CanNot):
            reach_on(JUST, ("hard", 1))
        self.assertEqual(rates_back(JUST, ("hard", 1)), ((0, 1), (-1, 1)))
        # Held fast twice over: left out or not, it holds; told by more it does not go.
        twice = (2, JUST[1] + JUST[1], ())
        self.assertEqual(rates_back(twice, ("hard", 0)), ((0, 1), (0, 1)))
        self.assertIsNone(reach_back(twice, ("hard", 0)))
        with self.assertRaises(CanNot):
            rates_on(twice, ("hard", 0))

    def test_bends_of_eases_are_none_of_places(self):
        bent = (((0, 1), (0, 1)), ((2, 1), (2, 1)), ((4, 1), (3, 1)))
        sheet = (2, ((1, 0, (-1, 1)),), ((0, 1, bent),))
        self.assertEqual(rates_back(sheet, ("hard", 0)), ((0, 1), (-1, 1)))
        self.assertIsNone(reach_back(sheet, ("hard", 0)))
        self.assertEqual(ease_rates_back(sheet, ("hard", 0)), ((-1, 1),))
        corner = (2, ((1, 0, (-2, 1)),), ((0, 1, bent),))
        self.assertEqual(ease_rates_back(corner, ("hard", 0)), ((-1, 2),))
        self.assertEqual(ease_rates_on(corner, ("hard", 0)), ((-1, 1),))
        self.assertIs(is_bend(corner, ("hard", 0)), False)
        # The SCALE itself told by more: as if the frame were less.
        self.assertEqual(ease_rates_on(corner, ("ease", 0)), ((-1, 1),))
        self.assertEqual(ease_rates_back(corner, ("ease", 0)), ((-1, 2),))
        self.assertEqual(rates_on(corner, ("ease", 0)), ((0, 1), (0, 1)))

    def test_scales_with_corners_bend_places(self):
        bent = (((0, 1), (0, 1)), ((2, 1), (2, 1)), ((4, 1), (3, 1)))
        sheet = (3, FRAME[1], (FRAME[2][0], (1, 2, bent)))
        self.assertIs(is_bend(sheet, ("hard", 0)), True)
        self.assertEqual(rates_on(sheet, ("hard", 0)), ((0, 1), (-1, 2), (-1, 1)))
        self.assertEqual(rates_back(sheet, ("hard", 0)), ((0, 1), (-1, 3), (-1, 1)))
        self.assertEqual(reach_on(sheet, ("hard", 0)), None)
        # 3 and 1 at first, then 1 and 1.
        self.assertEqual((rates_on(NEAR, ("ease", 0)), reach_on(NEAR, ("ease", 0))), (((0, 1),) * 3, (2, 1)))
        self.assertIsNone(reach_back(NEAR, ("ease", 0)))

    def test_one_and_the_same_rates_over_many_reasons(self):
        # The rates stay, though the one is less at ease than the other at first, and then the other way about.
        steep = (((-1, 1), (-8, 1)), ((1, 1), (2, 1)))
        sheet = (2, ((1, 0, (-1, 1)),), ((0, 1, PLAIN), (0, 1, steep)))
        self.assertIsNone(reach_back(sheet, ("hard", 0)))
        self.assertIsNone(reach_on(sheet, ("hard", 0)))
        both = (3, ((2, 0, (-8, 1)), (2, 0, (-9, 1))), FRAME[2])
        self.assertEqual(reach_back(both, ("hard", 0)), (1, 1))

    def test_eight_things_and_twenty_rules(self):
        seen = 0
        for sheet in drawn_round_sheets(334, 60, 8, 19):
            if sheet[0] < 6 or len(sheet[1]) + len(sheet[2]) > 20 or not sheet[2]:
                continue
            for mark in plainly.marks(sheet):
                try:
                    rates, reach = rates_on(sheet, mark), reach_on(sheet, mark)
                    rates_back(sheet, mark), reach_back(sheet, mark), is_bend(sheet, mark)
                except (Afloat, CanNot):
                    continue
                seen += 1
                e = Fraction(1, 9) if reach is None else Fraction(*reach)
                told = plainly.told_more(sheet, mark, e)
                self.assertTrue(plainly.is_fairest(told, gone(fairest(sheet), rates, e)))
        self.assertGreater(seen, 60)


DEEDS = (rates_on, rates_back, ease_rates_on, ease_rates_back, reach_on, reach_back, is_bend)


class Errors(unittest.TestCase):
    def test_no_place_ahead_of_all(self):
        loose = (2, (), ((0, 1, PLAIN),))
        for sheet, marks in ((FRAME, (("hard", 1), ("ease", 2), ("hard", -1))), (loose, (("hard", 0), ("ease", 1)))):
            for mark in marks:
                for deed in DEEDS:
                    for own in (mark, list(mark)):
                        with self.assertRaises(NoPlace) as caught:
                            deed(sheet, own)
                        self.assertEqual(vars(caught.exception), {"place": mark})

    def test_what_does_not_stand(self):
        floating = (3, ((0, 1, (1, 1)), (1, 0, (-1, 1))), ((0, 1, PLAIN), (1, 0, PLAIN)))
        shut = (2, ((0, 1, (2, 1)), (1, 0, (-1, 1))), ((0, 1, PLAIN), (1, 0, PLAIN)))
        # On a fast RING, too: so it does not go on, but that is said later.
        for sheet, kind in (((2, (), ((0, 1, PLAIN),)), Loose), (floating, Afloat), (shut, NoRoom)):
            for mark in plainly.marks(sheet):
                for deed in DEEDS:
                    with self.assertRaises(kind) as caught:
                        deed(sheet, mark)
                    self.assertEqual(len(vars(caught.exception)), 1)

    def test_arguments_stay(self):
        sheet, mark = listed(BRACED), ["hard", 0]
        for deed in DEEDS:
            deed(sheet, mark)
        self.assertEqual((sheet, mark), (listed(BRACED), ["hard", 0]))


if __name__ == "__main__":
    unittest.main()
