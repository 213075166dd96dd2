"""[2], [3], [11]: REASONS and BARS, against all RINGS and all CUTS."""

import unittest

import plainly
from drawn import ODD_THINGS, PLAIN, Row, drawn_places, drawn_round_sheets, drawn_sheets, listed

from likecuts.cuts import complaint
from likecuts.errors import Afloat, CanNot, Loose, NoPlace, NoRoom, Unfit
from likecuts.reasons import (are_reasons, bar_against, held_by, is_bar, is_reason, reason, reasons, reasons_many,
                              shared_reasons, unreasoned)
from likecuts.towers import fairest

ROW = (3, ((2, 0, (-4, 1)),), ((0, 1, PLAIN), (1, 2, PLAIN)))
LATE, EVEN = ((0, 1), (1, 1), (4, 1)), ((0, 1), (2, 1), (4, 1))
ROUND = (("ease", 0), ("ease", 1), ("hard", 0))
LONE = (1, (), ())
# Counted RULES alike, and hard ones: 2 * 2 * 2 RINGS.
ALIKE = (3, ROW[1] * 2, ROW[2] + ROW[2])
# No RING without room, but something else wanting; and a RING without room.
LOOSE, FLOATING = (2, (), ((0, 1, PLAIN),)), (3, (), ((0, 1, PLAIN), (1, 0, PLAIN)))
SHUT = (2, ((0, 1, (2, 1)), (1, 0, (-1, 1))), ((0, 1, PLAIN), (1, 0, PLAIN)))
FALLEN = ((LOOSE, Loose), (FLOATING, Afloat), (SHUT, NoRoom))


def standing_sheets(seed, many=150):
    some = [LONE, ROW, ALIKE] + drawn_sheets(seed, many, 4) + drawn_round_sheets(seed + 1, many)
    return [sheet for sheet in some if plainly.does_stand(sheet)]


def layouts_of(sheet, row):
    """The fairest LAYOUT, others near to it, others anywhere."""
    found = [fairest(sheet)]
    some = plainly.some_layout(sheet, drawn_places(row, sheet[0]))
    found.append(some)
    # Fairer and fairer: in the end some RULES have REASONS, and others have none.
    for _ in range(3):
        if some != found[0]:
            some = complaint(sheet, some)[1]
            found.append(some)
    return found


def turns(ring):
    return [ring[at:] + ring[:at] for at in range(len(ring))]


class InTheFairest(unittest.TestCase):
    def test_reasons(self):
        for sheet in standing_sheets(231):
            layout = fairest(sheet)
            told = []
            for k in range(len(sheet[2])):
                every = plainly.reasons_for(sheet, layout, k)
                told.append(min(every, key=lambda ring: (len(ring), ring)))
                self.assertEqual(reason(sheet, k), told[k])
                self.assertEqual(reason(k=k, sheet=listed(sheet)), told[k])
                held = tuple(mark for mark in sorted(plainly.marks(sheet)) if all(mark in ring for ring in every))
                self.assertEqual(held_by(sheet, k), held)
                self.assertEqual(held_by(k=k, sheet=listed(sheet)), held)
                self.assertEqual(reasons_many(sheet, k), len(every))
                self.assertEqual(reasons_many(k=k, sheet=listed(sheet)), len(every))
            self.assertEqual(reasons(sheet), tuple(told))
            self.assertEqual(reasons(sheet=listed(sheet)), tuple(told))
            self.assertIs(are_reasons(sheet, layout, reasons(sheet)), True)
            self.shared(sheet, layout)

    def shared(self, sheet, layout):
        rows = []
        for k in range(len(sheet[2])):
            every = plainly.reasons_for(sheet, layout, k)
            rows.append({min(turns(ring)) for ring in every})
        for k, row in enumerate(rows):
            told = tuple(own for own, other in enumerate(rows) if row & other)
            self.assertEqual(shared_reasons(sheet, k), told)
            self.assertEqual(shared_reasons(k=k, sheet=listed(sheet)), told)

    def test_edges(self):
        self.assertEqual(reasons(LONE), ())
        self.assertEqual(reasons_many(ALIKE, 2), 4)
        self.assertEqual(held_by(ALIKE, 2), (("ease", 2),))
        self.assertEqual(shared_reasons(ALIKE, 0), (0, 1, 3))
        self.assertEqual(reason(ALIKE, 3), (("ease", 3), ("hard", 0), ("ease", 0)))
        # Of two ways with as few marks that by a counted RULE is less: its marks come first.
        both = (2, ((1, 0, (-2, 1)),), ((0, 1, PLAIN), (1, 0, (((-2, 1), (2, 1)), ((0, 1), (4, 1))))))
        self.assertEqual(fairest(both), ((0, 1), (2, 1)))
        self.assertEqual(reason(both, 0), (("ease", 0), ("ease", 1)))
        # The shortest one is not that with the least mark: 2, 1, 0 and 2, 0.
        longer = (3, ((2, 1, (-2, 1)), (1, 0, (-2, 1)), (2, 0, (-4, 1))), ((0, 2, PLAIN), (0, 1, PLAIN)))
        self.assertEqual(reason(longer, 0), (("ease", 0), ("hard", 2)))
        self.assertEqual(reasons_many(longer, 0), 2)

    def test_lesser_eases_are_reasons_and_greater_ones_are_not(self):
        # 0 to 1 has 1, 1 to 2 has 3: the second one leans on the first one, not the other way about.
        sheet = (3, ((1, 0, (-1, 1)), (2, 0, (-4, 1))), ROW[2])
        self.assertEqual(fairest(sheet), ((0, 1), (1, 1), (4, 1)))
        self.assertEqual(reasons(sheet), ((("ease", 0), ("hard", 0)), (("ease", 1), ("hard", 1), ("ease", 0))))
        self.assertEqual((shared_reasons(sheet, 0), shared_reasons(sheet, 1)), ((0,), (1,)))


class InAnyLayout(unittest.TestCase):
    def test_a_reason_or_a_bar(self):
        row, seen = Row(233), set()
        for sheet in standing_sheets(234, 60):
            for layout in layouts_of(sheet, row):
                wanting = []
                for k in range(len(sheet[2])):
                    every, bars = plainly.reasons_for(sheet, layout, k), plainly.bars_of(sheet, layout, k)
                    self.assertNotEqual(bool(every), bool(bars))
                    seen.add(bool(every))
                    if not every:
                        wanting.append(k)
                    self.rings(sheet, layout, k, every)
                    self.bars(sheet, layout, k, bars)
                self.assertEqual(unreasoned(sheet, layout), tuple(wanting))
                self.assertEqual(unreasoned(layout=listed(layout), sheet=listed(sheet)), tuple(wanting))
                self.assertEqual(not wanting, layout == fairest(sheet))
                self.papers(sheet, layout)
        self.assertEqual(seen, {True, False})

    def rings(self, sheet, layout, k, every):
        for ring in plainly.all_rings(sheet)[:25]:
            for own in turns(ring):
                told = ("ease", k) in own and own[own.index(("ease", k)):] + own[:own.index(("ease", k))] in every
                self.assertIs(is_reason(sheet, layout, k, own), told)
            self.assertIs(is_reason(thing=own, k=k, layout=listed(layout), sheet=listed(sheet)), told)
            self.assertIs(is_reason(sheet, layout, k, list(own)), False)
            self.assertIs(is_reason(sheet, layout, k, own[:-1]), False)
            self.assertIs(is_reason(sheet, layout, k, own + own[:1]), False)

    def bars(self, sheet, layout, k, bars):
        for cut in plainly.all_cuts(sheet):
            self.assertIs(is_bar(sheet, layout, k, cut), cut in bars)
            self.assertIs(is_bar(thing=cut, k=k, layout=listed(layout), sheet=listed(sheet)), cut in bars)
            self.assertIs(is_bar(sheet, layout, k, list(cut)), False)
        if bars:
            fewest = min(bars, key=len)
            self.assertEqual([cut for cut in bars if len(cut) == len(fewest)], [fewest])
            self.assertEqual(bar_against(sheet, layout, k), fewest)
            self.assertEqual(bar_against(k=k, layout=listed(layout), sheet=listed(sheet)), fewest)
        else:
            with self.assertRaises(CanNot) as caught:
                bar_against(sheet, layout, k)
            self.assertEqual(vars(caught.exception), {})

    def papers(self, sheet, layout):
        every = [plainly.reasons_for(sheet, layout, k) for k in range(len(sheet[2]))]
        if not all(every):
            self.assertIs(are_reasons(sheet, layout, reasons(sheet)), False)
            return
        for at in (0, -1):
            some = tuple(turns(rows[at])[at] for rows in every)
            self.assertIs(are_reasons(sheet, layout, some), True)
            self.assertIs(are_reasons(thing=some, layout=listed(layout), sheet=listed(sheet)), True)
            self.assertIs(are_reasons(sheet, layout, list(some)), False)
            self.assertIs(are_reasons(sheet, layout, some + ((),)), False)
            if some:
                self.assertIs(are_reasons(sheet, layout, some[:-1]), False)
                self.assertIs(are_reasons(sheet, layout, some[:-1] + (list(some[-1]),)), False)
                self.assertIs(are_reasons(sheet, layout, some[:-1] + (None,)), False)

    def test_no_other_thing(self):
        # A CUT of 1 is a BAR of the first RULE in LATE.
        for thing in ODD_THINGS + ((2, 1), (1.0,), (True,), (0, 1), (2,), (1, 1), (0, 1, 2), (-1, 1), (1, 3)):
            self.assertIs(is_reason(ROW, EVEN, 0, thing), False)
            self.assertIs(is_bar(ROW, EVEN, 0, thing), False)
            self.assertIs(is_bar(ROW, LATE, 0, thing), thing == (1,) and thing.__class__ is tuple
                          and thing[0].__class__ is int)
            self.assertIs(are_reasons(ROW, EVEN, thing), False)
            self.assertIs(are_reasons(LONE, ((0, 1),), thing), thing == () and thing.__class__ is tuple)
        self.assertIs(is_bar(ROW, LATE, 0, (1,)), True)
        for thing in (ROUND[:2], ROUND + ROUND, ROUND[::-1], (("ease", 0), ("ease", 1), ("hard", 1)), [ROUND],
                      (["ease", 0],) + ROUND[1:], (("ease", False),) + ROUND[1:]):
            self.assertIs(is_reason(ROW, EVEN, 0, thing), False)
        self.assertIs(is_reason(ROW, EVEN, 0, ROUND), True)


class Errors(unittest.TestCase):
    def test_what_does_not_stand_first_of_all(self):
        for sheet, kind in FALLEN:
            for k in (0, 99, -1):
                calls = [lambda: reason(sheet, k), lambda: held_by(sheet, k), lambda: reasons_many(sheet, k),
                         lambda: shared_reasons(sheet, k), lambda: is_reason(sheet, ((5, 1),), k, None),
                         lambda: bar_against(sheet, (), k), lambda: is_bar(sheet, ((5, 1),), k, None),
                         lambda: reasons(sheet), lambda: are_reasons(sheet, (), None), lambda: unreasoned(sheet, ())]
                for call in calls:
                    with self.assertRaises(kind) as caught:
                        call()
                    self.assertEqual(len(vars(caught.exception)), 1)
        with self.assertRaises(Afloat) as caught:
            reasons(FLOATING)
        self.assertEqual(caught.exception.lot, (2,))
        with self.assertRaises(Loose) as caught:
            reason(LOOSE, 5)
        self.assertEqual(caught.exception.lot, (1,))
        with self.assertRaises(NoRoom) as caught:
            unreasoned(SHUT, ())
        self.assertIn(caught.exception.ring, turns((("hard", 0), ("hard", 1))))

    def test_no_place_ahead_of_unfit(self):
        for layout in (EVEN, (), ((0, 1), (9, 1), (4, 1), (0, 1))):
            for k in (2, -1, 100):
                calls = [lambda: is_reason(ROW, layout, k, ROUND), lambda: bar_against(ROW, layout, k),
                         lambda: is_bar(ROW, layout, k, (1,)), lambda: reason(ROW, k), lambda: held_by(ROW, k),
                         lambda: reasons_many(ROW, k), lambda: shared_reasons(ROW, k), lambda: reason(LONE, k)]
                for call in calls:
                    with self.assertRaises(NoPlace) as caught:
                        call()
                    self.assertEqual(vars(caught.exception), {"place": k})

    def test_unfit(self):
        for layout in ((), ((0, 1),), ((0, 1), (2, 1), (5, 1)), ((1, 1), (2, 1), (4, 1)), EVEN + ((0, 1),)):
            calls = [lambda: is_reason(ROW, layout, 0, None), lambda: are_reasons(ROW, layout, None),
                     lambda: unreasoned(ROW, layout), lambda: bar_against(ROW, layout, 1),
                     lambda: is_bar(ROW, layout, 1, None), lambda: unreasoned(ROW, listed(layout))]
            for call in calls:
                with self.assertRaises(Unfit) as caught:
                    call()
                self.assertEqual(vars(caught.exception), {})

    def test_arguments_stay(self):
        sheet, layout = listed(ROW), listed(EVEN)
        reason(sheet, 0), reasons(sheet), is_reason(sheet, layout, 0, ROUND), are_reasons(sheet, layout, ())
        unreasoned(sheet, layout), is_bar(sheet, layout, 0, ()), held_by(sheet, 0), shared_reasons(sheet, 1)
        bar_against(sheet, listed(LATE), 0), reasons_many(sheet, 0)
        self.assertEqual((sheet, layout), (listed(ROW), listed(EVEN)))


if __name__ == "__main__":
    unittest.main()
