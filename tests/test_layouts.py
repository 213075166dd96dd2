"""[2], [3], [7]: LAYOUTS."""

import unittest
from fractions import Fraction

import plainly
from drawn import ODD_THINGS, PLAIN, Row, drawn_places, drawn_round_sheets, drawn_sheets, listed, pair

from likecuts.errors import NoPlace
from likecuts.layouts import (ease_row, eases, fairer, gap_of, gaps, is_layout, least_eased, mix_of, spares, tight)

FRAME = (3, ((2, 0, (-4, 1)),), ((0, 1, PLAIN), (1, 2, PLAIN)))
EVEN = ((0, 1), (2, 1), (4, 1))


def sheets_and_layouts(seed, many=3):
    """SHEETS, also some that do not stand, each with some LAYOUTS."""
    row, found = Row(seed), []
    for sheet in drawn_sheets(seed + 1, 130) + drawn_round_sheets(seed + 2, 130):
        if not plainly.without_room(sheet):
            layouts = [plainly.some_layout(sheet, drawn_places(row, sheet[0])) for _ in range(many)]
            found.append((sheet, layouts))
    return found


class IsLayout(unittest.TestCase):
    def test_layouts(self):
        row, seen = Row(70), set()
        for sheet, layouts in sheets_and_layouts(71):
            for layout in layouts:
                self.assertTrue(plainly.keeps(sheet, layout))
                self.assertIs(is_layout(sheet, layout), True)
                self.assertIs(is_layout(listed(sheet), thing=layout), True)
                for other in (list(layout), listed(layout), layout + ((0, 1),), layout[:-1], (list(layout[0]),)
                              + layout[1:], ((False, 1),) + layout[1:], layout[:-1] + (None,), (0,) + layout[1:],
                              layout[:-1] + ((2 * layout[-1][0], 2 * layout[-1][1]),), ((1, 1),) + layout[1:]):
                    self.assertIs(is_layout(sheet, other), False, other)
                place = row.below(sheet[0])
                moved = pair(Fraction(*layout[place]) + Fraction(row.between(-3, 3), 2))
                other = layout[:place] + (moved,) + layout[place + 1:]
                seen.add(plainly.keeps(sheet, other))
                self.assertIs(is_layout(sheet, other), plainly.keeps(sheet, other))
        self.assertEqual(seen, {True, False})

    def test_no_other_thing(self):
        for thing in ODD_THINGS + ((), ((0, 1),), ((0, 1), (2, 1), (4, 1), (0, 1)), ((0, 1), (2, 1), (4, True))):
            self.assertIs(is_layout(FRAME, thing), False)
            self.assertIs(is_layout((1, (), ()), thing), thing == ((0, 1),))
        self.assertIs(is_layout((2, (), ()), ((0, 1), (10 ** 50, 3))), True)

    def test_a_rule_just_kept(self):
        self.assertIs(is_layout(FRAME, ((0, 1), (100, 1), (4, 1))), True)
        self.assertIs(is_layout(FRAME, ((0, 1), (0, 1), (4000001, 1000000))), False)


class Told(unittest.TestCase):
    def test_gaps_and_eases(self):
        for sheet, layouts in sheets_and_layouts(74):
            for layout in layouts:
                hard = [plainly.gap(layout, own) for own in sheet[1]]
                counted = [plainly.gap(layout, own) for own in sheet[2]]
                told = (tuple(pair(own) for own in hard), tuple(pair(own) for own in counted))
                self.assertEqual(gaps(sheet, layout), told)
                for (word, k), own in zip(plainly.marks(sheet), hard + counted):
                    self.assertEqual(gap_of(sheet, layout, (word, k)), pair(own))
                less = [own - Fraction(*rule[2]) for own, rule in zip(hard, sheet[1])]
                self.assertEqual(spares(sheet, layout), tuple(pair(own) for own in less))
                self.assertEqual(tight(sheet, layout), tuple(("hard", k) for k, own in enumerate(less) if own == 0))
                some = plainly.eases(sheet, layout)
                self.assertEqual(eases(sheet, layout), tuple(pair(own) for own in some))
                self.assertEqual(ease_row(sheet, layout), tuple(pair(own) for own in sorted(some)))
                low = tuple(("ease", k) for k, own in enumerate(some) if own == min(some))
                self.assertEqual(least_eased(sheet, layout), low)
                self.lists_and_names(sheet, layout)

    def lists_and_names(self, sheet, layout):
        own, places = listed(sheet), listed(layout)
        for deed in (gaps, spares, tight, eases, ease_row, least_eased):
            self.assertEqual(deed(own, places), deed(sheet, layout))
            self.assertEqual(deed(layout=places, sheet=own), deed(sheet, layout))
        for mark in plainly.marks(sheet)[:2]:
            self.assertEqual(gap_of(mark=list(mark), layout=places, sheet=own), gap_of(sheet, layout, mark))
        self.assertEqual((own, places), (listed(sheet), listed(layout)))

    def test_order_as_quotients(self):
        sheet = (3, (), ((0, 1, PLAIN), (0, 2, PLAIN)))
        self.assertEqual(ease_row(sheet, ((0, 1), (1, 2), (1, 3))), ((1, 3), (1, 2)))
        self.assertEqual(least_eased(sheet, ((0, 1), (1, 2), (1, 3))), (("ease", 1),))
        self.assertEqual(ease_row(sheet, ((0, 1), (1, 2), (1, 2))), ((1, 2), (1, 2)))

    def test_without_rules(self):
        lone, layout = (1, (), ()), ((0, 1),)
        self.assertEqual((gaps(lone, layout), spares(lone, layout), tight(lone, layout)), (((), ()), (), ()))
        self.assertEqual((eases(lone, layout), ease_row(lone, layout), least_eased(lone, layout)), ((), (), ()))
        self.assertEqual(fairer(lone, layout, layout), 0)
        self.assertEqual(mix_of(lone, layout, layout, (1, 2)), layout)

    def test_no_such_rule(self):
        for mark in (("hard", 1), ("ease", 2), ("ease", -1), ["hard", 7]):
            with self.assertRaises(NoPlace) as caught:
                gap_of(FRAME, EVEN, mark)
            self.assertEqual(vars(caught.exception), {"place": tuple(mark)})


class Fairer(unittest.TestCase):
    def test_fairer(self):
        seen = set()
        for sheet, layouts in sheets_and_layouts(77):
            for one in layouts:
                for other in layouts:
                    told = plainly.compare(plainly.eases(sheet, one), plainly.eases(sheet, other))
                    seen.add(told)
                    self.assertEqual(fairer(sheet, one, other), told)
                    self.assertEqual(fairer(other=listed(other), one=listed(one), sheet=listed(sheet)), told)
                    self.assertIs(fairer(sheet, one, other).__class__, int)
        self.assertEqual(seen, {1, 0, -1})

    def test_then_the_next_least(self):
        sheet = (4, (), ((0, 1, PLAIN), (0, 2, PLAIN), (0, 3, PLAIN)))
        one, other = ((0, 1), (1, 1), (5, 1), (3, 1)), ((0, 1), (4, 1), (1, 1), (3, 1))
        self.assertEqual((fairer(sheet, one, other), fairer(sheet, other, one)), (1, -1))
        self.assertEqual(fairer(sheet, one, ((0, 1), (5, 1), (3, 1), (1, 1))), 0)
        self.assertEqual(fairer(sheet, ((0, 1), (1, 3), (9, 1), (9, 1)), ((0, 1), (1, 2), (1, 2), (1, 2))), -1)


class Mixes(unittest.TestCase):
    def test_mixes(self):
        row = Row(80)
        for sheet, layouts in sheets_and_layouts(81, 2):
            one, other = layouts
            share = Fraction(row.between(1, 5), 6)
            mix = mix_of(sheet, one, other, pair(share))
            told = [Fraction(*a) + share * (Fraction(*b) - Fraction(*a)) for a, b in zip(one, other)]
            self.assertEqual(mix, tuple(pair(own) for own in told))
            self.assertEqual(mix_of(sheet, one, other, (0, 1)), one)
            self.assertEqual(mix_of(sheet, one, other, (1, 1)), other)
            again = mix_of(share=list(pair(share)), other=listed(other), one=listed(one), sheet=listed(sheet))
            self.assertEqual(again, mix)
            self.guarantees(sheet, one, other, mix)

    def guarantees(self, sheet, one, other, mix):
        self.assertIs(is_layout(sheet, mix), True)
        both = tuple(mark for mark in tight(sheet, one) if mark in tight(sheet, other))
        self.assertEqual(tight(sheet, mix), both)
        rows = zip(*[[Fraction(*own) for own in eases(sheet, layout)] for layout in (one, mix, other)])
        for first, middle, last in rows:
            self.assertTrue(min(first, last) <= middle <= max(first, last))
        if fairer(sheet, one, other) <= 0 and gaps(sheet, one)[1] != gaps(sheet, other)[1]:
            self.assertEqual(fairer(sheet, mix, one), 1)


if __name__ == "__main__":
    unittest.main()
