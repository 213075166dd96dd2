"""[2], [3], [8]: levels and BARS, against all RINGS and all ways."""

import unittest
from fractions import Fraction

import plainly
from drawn import ODD_THINGS, PLAIN, Row, drawn_places, drawn_round_sheets, drawn_sheets, listed, pair

from likecuts.errors import CanNot, NoPlace, NoRoom, Unfit
from likecuts.levels import (bar_to, eased, eased_gap, is_bar_to, is_eased, is_top_ring, most_ease, ring_level,
                             top_level, top_ring)

FRAME = (3, ((2, 0, (-4, 1)),), ((0, 1, PLAIN), (1, 2, PLAIN)))
LOOSE = (2, (), ((0, 1, PLAIN),))
TIGHT = (2, ((0, 1, (2, 1)), (1, 0, (-1, 1))), ((0, 1, PLAIN), (1, 0, PLAIN)))
ROUND = (("hard", 0), ("ease", 0), ("ease", 1))


def many_sheets():
    """SHEETS that stand and SHEETS that do not, some without room."""
    return [(1, (), ()), FRAME, LOOSE, TIGHT] + drawn_sheets(91, 160, 4, 8) + drawn_round_sheets(92, 160)


def some_eases(sheet, row):
    """Eases about the least level, at it, just above it, and anywhere."""
    least = plainly.least_level(sheet)
    some = [Fraction(*row.fraction()), Fraction(-40)]
    if least is not None:
        some += [least, least + Fraction(1, 1000), least - Fraction(1, 7), least + 3]
    return some


def turns(ring):
    return [ring[at:] + ring[:at] for at in range(len(ring))]


class RingLevels(unittest.TestCase):
    def test_levels(self):
        for sheet in many_sheets():
            for ring in plainly.counted_rings(sheet)[:20]:
                told = ring_level(sheet, ring)
                self.assertEqual(plainly.sum_at(sheet, ring, Fraction(*told)), 0)
                self.assertEqual(told, pair(plainly.level(sheet, ring)))
                self.assertEqual(ring_level(ring=listed(turns(ring)[-1]), sheet=listed(sheet)), told)
            for ring in plainly.hard_rings(sheet)[:3]:
                for own in (ring, listed(ring)):
                    with self.assertRaises(Unfit) as caught:
                        ring_level(sheet, own)
                    self.assertEqual(vars(caught.exception), {})


class Eased(unittest.TestCase):
    def test_a_layout_or_a_bar(self):
        row, seen = Row(93), set()
        for sheet in many_sheets():
            every = plainly.all_rings(sheet)
            for ease in some_eases(sheet, row):
                bars = [ring for ring in every if plainly.sum_at(sheet, ring, ease) > 0]
                seen.add(bool(bars))
                if bars:
                    self.barred(sheet, ease, bars)
                else:
                    self.eased_so_much(sheet, ease)
                for ring in every[:10]:
                    self.assertIs(is_bar_to(sheet, pair(ease), ring), ring in bars)
                    self.assertIs(is_bar_to(thing=turns(ring)[1], ease=list(pair(ease)), sheet=listed(sheet)),
                                  ring in bars)
                    self.assertIs(is_bar_to(sheet, pair(ease), list(ring)), False)
        self.assertEqual(seen, {True, False})

    def barred(self, sheet, ease, bars):
        told = bar_to(sheet, pair(ease))
        self.assertIn(min(turns(told)), bars)
        self.assertEqual(bar_to(ease=list(pair(ease)), sheet=listed(sheet)), told)
        calls = [lambda: eased(sheet, pair(ease)), lambda: eased_gap(sheet, pair(ease), 0, 0)]
        if sheet[2]:
            calls.append(lambda: most_ease(sheet, pair(ease), 0))
        for call in calls:
            with self.assertRaises(CanNot) as caught:
                call()
            self.assertEqual(vars(caught.exception), {})

    def eased_so_much(self, sheet, ease):
        layout = eased(sheet, pair(ease))
        self.assertTrue(plainly.keeps(sheet, layout))
        self.assertTrue(all(own >= ease for own in plainly.eases(sheet, layout)))
        self.assertIs(is_eased(sheet, pair(ease), layout), True)
        self.assertEqual(eased(ease=list(pair(ease)), sheet=listed(sheet)), layout)
        with self.assertRaises(CanNot):
            bar_to(sheet, pair(ease))

    def test_is_eased(self):
        row, seen = Row(94), set()
        for sheet in many_sheets():
            if plainly.without_room(sheet):
                continue
            layout = plainly.some_layout(sheet, drawn_places(row, sheet[0]))
            least = min(plainly.eases(sheet, layout), default=Fraction(0))
            for ease in (least, least - 1, least + Fraction(1, 100)):
                told = ease <= least or not sheet[2]
                seen.add(told)
                self.assertIs(is_eased(sheet, pair(ease), layout), told)
                self.assertIs(is_eased(thing=layout, ease=list(pair(ease)), sheet=listed(sheet)), told)
                self.assertIs(is_eased(sheet, pair(ease), list(layout)), False)
            self.assertIs(is_eased(sheet, pair(least - 9), ((1, 1),) + layout[1:]), False)
        self.assertEqual(seen, {True, False})
        # Eased enough, but no LAYOUT.
        self.assertIs(is_eased(FRAME, (1, 1), ((0, 1), (3, 1), (6, 1))), False)

    def test_no_other_thing(self):
        for thing in ODD_THINGS:
            self.assertIs(is_eased(FRAME, (-100, 1), thing), False)
            self.assertIs(is_bar_to(FRAME, (100, 1), thing), False)
            self.assertIs(is_bar_to(TIGHT, (-100, 1), thing), False)
            self.assertIs(is_top_ring(FRAME, thing), False)
            self.assertIs(is_top_ring(TIGHT, thing), False)

    def test_a_bar_of_hard_rules(self):
        ring = (("hard", 1), ("hard", 0))
        for ease in ((-1000, 1), (0, 1), (1000, 1)):
            self.assertIs(is_bar_to(TIGHT, ease, ring), True)
            self.assertIn(bar_to((2, TIGHT[1], ()), ease), (ring, ring[::-1]))
            with self.assertRaises(CanNot):
                eased(TIGHT, ease)
        fast = (2, ((0, 1, (2, 1)), (1, 0, (-2, 1))), ())
        self.assertIs(is_bar_to(fast, (1000, 1), ring), False)
        self.assertEqual(eased(fast, (1000, 1)), ((0, 1), (2, 1)))

    def test_things_without_rules(self):
        self.assertEqual(eased((1, (), ()), (7, 1)), ((0, 1),))
        for sheet in ((3, (), ((1, 2, PLAIN),)), (3, (), ((0, 2, PLAIN),)), (3, (), ())):
            self.assertIs(is_eased(sheet, (7, 1), eased(sheet, (7, 1))), True)


class Tops(unittest.TestCase):
    def test_tops(self):
        seen = set()
        for sheet in many_sheets():
            every, least = plainly.counted_rings(sheet), plainly.least_level(sheet)
            unroomy = bool(plainly.without_room(sheet))
            lowest = [ring for ring in every if plainly.level(sheet, ring) == least and not unroomy]
            seen.add((unroomy, least is None))
            for ring in every[:15]:
                self.assertIs(is_top_ring(sheet, ring), ring in lowest)
                self.assertIs(is_top_ring(thing=turns(ring)[1], sheet=listed(sheet)), ring in lowest)
                self.assertIs(is_top_ring(sheet, list(ring)), False)
            for ring in plainly.hard_rings(sheet)[:3]:
                self.assertIs(is_top_ring(sheet, ring), False)
            if unroomy:
                self.refused(sheet)
                continue
            self.assertEqual(top_level(sheet), None if least is None else pair(least))
            self.assertEqual(top_level(sheet=listed(sheet)), top_level(sheet))
            self.assertEqual(top_ring(sheet=listed(sheet)), top_ring(sheet))
            if least is None:
                self.assertIsNone(top_ring(sheet))
            else:
                self.assertIn(min(turns(top_ring(sheet))), lowest)
                self.guarantee(sheet, lowest)
        self.assertEqual(len(seen), 4)

    def refused(self, sheet):
        for deed in (top_level, top_ring):
            with self.assertRaises(NoRoom) as caught:
                deed(sheet)
            self.assertIn(min(turns(caught.exception.ring)), plainly.without_room(sheet))

    def guarantee(self, sheet, lowest):
        least = plainly.least_level(sheet)
        layout = eased(sheet, pair(least))
        told = plainly.eases(sheet, layout)
        for ring in lowest[:8]:
            for word, k in ring:
                self.assertTrue(told[k] == least if word == "ease" else plainly.is_tight(layout, sheet[1][k]))
        with self.assertRaises(CanNot):
            eased(sheet, pair(least + Fraction(1, 10 ** 9)))

    def test_eight_things_and_twenty_rules(self):
        seen = 0
        for sheet in drawn_round_sheets(95, 25, 8, 19):
            if sheet[0] > 5 and plainly.counted_rings(sheet):
                seen += 1
                self.assertEqual(top_level(sheet), pair(plainly.least_level(sheet)))
                self.assertIs(is_top_ring(sheet, top_ring(sheet)), True)
        self.assertGreater(seen, 5)


class Most(unittest.TestCase):
    def test_gaps_and_eases(self):
        row, seen = Row(96), set()
        for sheet in many_sheets():
            for ease in some_eases(sheet, row)[:4]:
                hard = plainly.told_at(sheet, ease)
                if plainly.without_room(hard):
                    continue
                gaps = {}
                for i in range(sheet[0]):
                    for j in range(sheet[0]):
                        sums = [plainly.hard_sum(hard, way) for way in plainly.all_ways(hard, i, j)]
                        gaps[i, j] = max(sums, default=None)
                        told = pair(gaps[i, j]) if sums else None
                        seen.add(told is None)
                        self.assertEqual(eased_gap(sheet, pair(ease), i, j), told)
                for k, (i, j, scale) in enumerate(sheet[2]):
                    back = gaps[j, i]
                    told = None if back is None else pair(plainly.ease_for(scale, -back))
                    seen.add((told is None, "ease"))
                    self.assertEqual(most_ease(sheet, pair(ease), k), told)
                    self.assertEqual(most_ease(k=k, ease=list(pair(ease)), sheet=listed(sheet)), told)
                    self.assertEqual(eased_gap(j=j, i=i, ease=list(pair(ease)), sheet=listed(sheet)),
                                     eased_gap(sheet, pair(ease), i, j))
        self.assertEqual(len(seen), 4)

    def test_no_place_first_of_all(self):
        for sheet, ease in ((FRAME, (1, 1)), (FRAME, (100, 1)), ((3,) + TIGHT[1:], (0, 1))):
            for i, j, place in ((3, -1, 3), (0, 3, 3), (-1, 3, -1), (2, 7, 7)):
                with self.assertRaises(NoPlace) as caught:
                    eased_gap(sheet, ease, i, j)
                self.assertEqual(vars(caught.exception), {"place": place})
            for k in (2, -1, 100):
                with self.assertRaises(NoPlace) as caught:
                    most_ease(sheet, ease, k)
                self.assertEqual(vars(caught.exception), {"place": k})

    def test_none(self):
        self.assertIsNone(eased_gap(LOOSE, (1, 1), 1, 0))
        self.assertEqual(eased_gap(LOOSE, (1, 1), 0, 0), (0, 1))
        self.assertIsNone(top_level(LOOSE))
        self.assertIsNone(top_ring((1, (), ())))

    def test_arguments_stay(self):
        sheet, ring, ease = listed(FRAME), listed(ROUND), [1, 1]
        ring_level(sheet, ring), eased(sheet, ease), is_eased(sheet, ease, ()), top_level(sheet), top_ring(sheet)
        bar_to(sheet, [9, 1]), is_bar_to(sheet, ease, ROUND), is_top_ring(sheet, ROUND), most_ease(sheet, ease, 0)
        eased_gap(sheet, ease, 0, 1)
        self.assertEqual((sheet, ring, ease), (listed(FRAME), listed(ROUND), [1, 1]))


if __name__ == "__main__":
    unittest.main()
