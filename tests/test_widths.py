"""[2], [3], [15]: TABLES, lines and bends, against the fairest LAYOUTS at many single widths."""

import time
import unittest
from fractions import Fraction

import plainly
from drawn import ODD_THINGS, PLAIN, Row, big_sheet, drawn_round_sheets, drawn_sheets, listed, pair, stairs

from likecuts.errors import CanNot, NoPlace, TooMuch, Unfit
from likecuts.rates import rates_back, rates_on
from likecuts.sheets import stands
from likecuts.towers import fairest
from likecuts.widths import (bends, is_free, is_table, laid_at, least_width, lines_of, sheet_at, table)

FRAME = (3, ((2, 0, (-4, 1)),), ((0, 1, PLAIN), (1, 2, PLAIN)))
NEAR = (3, FRAME[1] + ((0, 1, (3, 1)),), FRAME[2])
LOW = (3, NEAR[1] + ((1, 2, (0, 1)),), NEAR[2])
JUST = (2, ((0, 1, (2, 1)), (1, 0, (-2, 1))), ((0, 1, PLAIN),))
PINNED = (3, ((1, 2, (2, 1)), (2, 1, (-2, 1))), ((0, 1, PLAIN), (1, 0, PLAIN)))
HALVES = (((0, 1), (0, 1)), ((0, 1), (1, 2)), ((0, 1), (1, 1)))
ROUND = (("hard", 0), ("ease", 0), ("ease", 1))
WHOLE = ((None, None, HALVES, (ROUND, ROUND)),)


def all_placed(seed, many=70):
    """SHEETS, each with the place of a hard RULE of it."""
    some = [FRAME, NEAR, LOW, JUST, PINNED] + drawn_sheets(seed, many, 4) + drawn_round_sheets(seed + 1, many, 4)
    return [(sheet, place) for sheet in some for place in range(len(sheet[1]))]


def all_free(seed, many=70):
    """Those that are free."""
    return [own for own in all_placed(seed, many) if plainly.is_free(*own)]


def some_widths(rows):
    """Widths at each end of the rows, beside them, between them and far beyond."""
    ends = sorted({Fraction(*end) for row in rows for end in row[:2] if end is not None}) or [Fraction(0)]
    some = ends + [(low + high) / 2 for low, high in zip(ends, ends[1:])]
    some += [own + by for own in ends for by in (Fraction(1, 10 ** 6), Fraction(-1, 10 ** 6))]
    return sorted(some + [ends[0] - 1000, ends[0] - 3, ends[-1] + 3, ends[-1] + 100000])


def row_at(rows, width):
    """The row of a width; None if there is none."""
    for row in rows:
        if (row[0] is None or Fraction(*row[0]) <= width) and (row[1] is None or width <= Fraction(*row[1])):
            return row
    return None


class Free(unittest.TestCase):
    def test_is_free(self):
        seen = set()
        for sheet, place in all_placed(341, 130):
            told = plainly.is_free(sheet, place)
            seen.add(told)
            self.assertIs(is_free(sheet, place), told)
            self.assertIs(is_free(place=place, sheet=listed(sheet)), told)
            if not told:
                self.refused(sheet, place)
        self.assertEqual(seen, {True, False})

    def refused(self, sheet, place):
        for call in (lambda: least_width(sheet, place), lambda: table(sheet, place), lambda: lines_of(sheet, place),
                     lambda: is_table(sheet, place, None), lambda: bends(sheet, place),
                     lambda: laid_at(sheet, place, (-10 ** 6, 1))):
            with self.assertRaises(Unfit) as caught:
                call()
            self.assertEqual(vars(caught.exception), {})

    def test_whatever_its_far_is(self):
        # Told by less than it can be the SHEET does not stand, but is free.
        narrow = (3, ((2, 0, (-1, 1)), (0, 1, (3, 1))), FRAME[2])
        self.assertIs(stands((3, narrow[1] + ((1, 2, (0, 1)),), narrow[2])), False)
        self.assertIs(is_free((3, narrow[1] + ((1, 2, (0, 1)),), narrow[2]), 0), True)
        # Not free: loose with it; without room without it; hanging together with it only.
        self.assertIs(is_free((3, ((2, 0, (-4, 1)),), FRAME[2] + ((2, 1, PLAIN),)), 0), True)
        self.assertIs(is_free((3, ((2, 0, (-4, 1)),), ((0, 1, PLAIN), (2, 1, PLAIN))), 0), False)
        self.assertIs(is_free((3, FRAME[1] + ((0, 1, (1, 1)), (1, 0, (0, 1))), FRAME[2]), 0), False)
        self.assertIs(is_free(PINNED, 0), False)
        self.assertIs(is_free(PINNED, 1), False)

    def test_sheet_at(self):
        row = Row(343)
        for sheet, place in all_placed(344):
            width = row.fraction()
            own = plainly.at_width(sheet, place, Fraction(*width))
            self.assertEqual(sheet_at(sheet, place, width), own)
            self.assertEqual(sheet_at(width=list(width), place=place, sheet=listed(sheet)), own)


class Lines(unittest.TestCase):
    def test_at_many_single_widths(self):
        seen = set()
        for sheet, place in all_free(346):
            rows, low = lines_of(sheet, place), plainly.least_width(sheet, place)
            self.assertEqual(lines_of(place=place, sheet=listed(sheet)), rows)
            self.assertEqual(least_width(sheet, place), None if low is None else pair(low))
            self.assertEqual(least_width(place=place, sheet=listed(sheet)), least_width(sheet, place))
            self.in_order(sheet, place, rows, low)
            for width in some_widths(rows):
                seen.add(self.one_width(sheet, place, rows, low, width))
        self.assertEqual(seen, {True, False})

    def in_order(self, sheet, place, rows, low):
        self.assertEqual([row[0] for row in rows], [None if low is None else pair(low)] + [row[1] for row in rows[:-1]])
        self.assertIsNone(rows[-1][1])
        self.assertTrue(all(row[1] is not None for row in rows[:-1]))
        self.assertTrue(all(row[2] != own[2] for row, own in zip(rows, rows[1:])))
        self.assertEqual(bends(sheet, place), [row[0] for row in rows[1:]])
        self.assertEqual(bends(place=place, sheet=listed(sheet)), bends(sheet, place))
        for own, behind in zip(bends(sheet, place), bends(sheet, place)[1:]):
            self.assertLess(Fraction(*own), Fraction(*behind))

    def one_width(self, sheet, place, rows, low, width):
        told = plainly.at_width(sheet, place, width)
        if low is not None and width < low:
            self.assertTrue(plainly.without_room(told))
            self.assertIsNone(row_at(rows, width))
            for own in (pair(width), list(pair(width))):
                with self.assertRaises(CanNot) as caught:
                    laid_at(sheet, place, own)
                self.assertEqual(vars(caught.exception), {})
            return False
        layout = plainly.places_by(row_at(rows, width)[2], width)
        self.assertTrue(plainly.does_stand(told))
        self.assertTrue(plainly.is_fairest(told, layout))
        self.assertEqual(laid_at(sheet, place, pair(width)), layout)
        self.assertEqual(laid_at(width=list(pair(width)), place=place, sheet=listed(sheet)), layout)
        self.assertEqual(fairest(told), layout)
        return True

    def test_slopes_are_rates_and_nothing_jumps(self):
        for sheet, place in all_free(348, 40):
            rows = lines_of(sheet, place)
            for first, last, lines in rows:
                slopes = [Fraction(*line[1]) for line in lines]
                self.assertLessEqual(max(slopes) - min(slopes), 1)
                # i lies behind: told by more width it goes on most, j least.
                i, j, _ = sheet[1][place]
                self.assertEqual((slopes[i], slopes[j]), (max(slopes), min(slopes)))
                if first is not None:
                    told = sheet_at(sheet, place, first)
                    back = tuple(line[1] for line in lines)
                    self.assertEqual(tuple((-top, bottom) for top, bottom in rates_back(told, ("hard", place))), back)
                if last is not None:
                    told = sheet_at(sheet, place, last)
                    on = tuple((-line[1][0], line[1][1]) for line in lines)
                    self.assertEqual(rates_on(told, ("hard", place)), on)
            for width in some_widths(rows):
                if row_at(rows, width) is not None:
                    wide = width + Fraction(7, 5)
                    ahead, behind = laid_at(sheet, place, pair(width)), laid_at(sheet, place, pair(wide))
                    told = [Fraction(*new) - Fraction(*old) for old, new in zip(ahead, behind)]
                    self.assertLessEqual(max(told) - min(told), Fraction(7, 5))

    def test_edges(self):
        self.assertEqual(lines_of((2, ((1, 0, (5, 1)),), ((0, 1, PLAIN),)), 0),
                         [(None, None, (((0, 1), (0, 1)), ((0, 1), (1, 1))))])
        self.assertEqual(lines_of(JUST, 1)[0][0], (2, 1))
        # JUST hangs together by its counted RULE; the other way about nothing leads back to 1.
        self.assertEqual(lines_of(JUST, 0), [((-2, 1), None, (((0, 1), (0, 1)), ((2, 1), (0, 1))))])
        # Told by a width twice: from 4 on the other RULE holds it.
        twice = (3, FRAME[1] + ((2, 0, (-4, 1)),), FRAME[2])
        held = (((0, 1), (0, 1)), ((2, 1), (0, 1)), ((4, 1), (0, 1)))
        self.assertEqual(lines_of(twice, 0), [(None, (4, 1), HALVES), ((4, 1), None, held)])
        self.assertEqual((bends(twice, 0), bends(FRAME, 0), least_width(twice, 0)), ([(4, 1)], [], None))

    def test_corners_make_bends(self):
        bent = (((0, 1), (0, 1)), ((2, 1), (2, 1)), ((4, 1), (3, 1)), ((5, 1), (8, 1)))
        sheet = (3, FRAME[1], (FRAME[2][0], (1, 2, bent)))
        self.assertEqual(bends(sheet, 0), [(4, 1), (7, 1)])
        self.assertEqual(laid_at(sheet, 0, (7, 1)), ((0, 1), (3, 1), (7, 1)))
        self.assertEqual(laid_at(sheet, 0, (-7, 1)), ((0, 1), (-7, 2), (-7, 1)))


class Tables(unittest.TestCase):
    def test_tables_hold(self):
        row, seen = Row(351), set()
        for sheet, place in all_free(352):
            told = table(sheet, place)
            self.assertIs(told.__class__, tuple)
            self.assertTrue(self.is_one(sheet, place, told))
            self.assertIs(is_table(sheet, place, told), True)
            self.assertIs(is_table(thing=told, place=place, sheet=listed(sheet)), True)
            self.assertEqual(table(place=place, sheet=listed(sheet)), told)
            lines = []
            for first, last, own, _ in told:
                if lines and lines[-1][2] == own:
                    lines[-1] = (lines[-1][0], last, own)
                else:
                    lines.append((first, last, own))
            self.assertEqual(lines, lines_of(sheet, place))
            for _ in range(12):
                other = self.changed(sheet, told, row)
                is_one = self.is_one(sheet, place, other)
                seen.add(is_one)
                self.assertIs(is_table(sheet, place, other), is_one, (sheet, place, other))
            for thing in (list(told), [told], told + told, told[1:], told[:-1], listed(told), told + (None,)):
                self.assertIs(is_table(sheet, place, thing), False)
        self.assertEqual(seen, {True, False})

    def is_one(self, sheet, place, thing):
        """Whether thing, of the shape of a TABLE, is one."""
        low = plainly.least_width(sheet, place)
        ends = [None if low is None else pair(low)] + [row[1] for row in thing[:-1]]
        if not thing or [row[0] for row in thing] != ends or thing[-1][1] is not None or None in ends[1:]:
            return False
        for first, last, lines, rings in thing:
            if first is not None and last is not None and Fraction(*first) >= Fraction(*last):
                return False
            turned = [min(ring[at:] + ring[:at] for at in range(len(ring))) for ring in rings]
            every = plainly.all_rings(sheet)
            if not all(ring in every and ("ease", k) in ring for k, ring in enumerate(turned)):
                return False
            if not plainly.stretch_holds(sheet, place, (first, last, lines, rings)):
                return False
        return True

    def changed(self, sheet, told, row):
        rows, at = list(told), row.below(len(told))
        first, last, lines, rings = rows[at]
        kind = row.below(7)
        if kind == 0:
            # In two: still a TABLE.
            low, high = [None if end is None else Fraction(*end) for end in (first, last)]
            middle = (low + high) / 2 if None not in (low, high) else (low or high or Fraction(0)) + (
                0 if low is high else -1 if low is None else 1)
            rows[at:at + 1] = [(first, pair(middle), lines, rings), (pair(middle), last, lines, rings)]
        elif kind < 4 and rings:
            k = row.below(len(rings))
            some = [ring for ring in plainly.all_rings(sheet) if ("ease", k) in ring]
            ring = row.one_of(some)
            turn = row.below(len(ring))
            rows[at] = (first, last, lines, rings[:k] + (ring[turn:] + ring[:turn],) + rings[k + 1:])
        elif kind == 4:
            thing, side = row.below(len(lines)), row.below(2)
            line = list(lines[thing])
            line[side] = pair(Fraction(*line[side]) + Fraction(row.between(-1, 1), 3))
            rows[at] = (first, last, lines[:thing] + (tuple(line),) + lines[thing + 1:], rings)
        elif kind == 5 and last is not None:
            # The STRETCH goes on too far, or not far enough.
            end = pair(Fraction(*last) + row.one_of((Fraction(1, 5), Fraction(-1, 5))))
            rows[at] = (first, end, lines, rings)
            rows[at + 1] = (end,) + rows[at + 1][1:]
        else:
            end = pair(Fraction(*row.fraction()))
            rows[at] = (end, last, lines, rings) if row.below(2) else (first, end, lines, rings)
        return tuple(rows)

    def test_a_stretch_that_holds_at_its_ends_only(self):
        # Between 2 and 4 the second gap has less ease than the first one, though not at 2 and at 4.
        bent = (((0, 1), (0, 1)), ((1, 1), (1, 1)), ((3, 2), (11, 10)), ((2, 1), (2, 1)))
        sheet = (3, FRAME[1], (FRAME[2][0], (1, 2, bent)))
        ring = (ROUND, ROUND)
        self.assertIs(is_table(sheet, 0, ((None, None, HALVES, ring),)), False)
        cut = ((None, (2, 1), HALVES, ring), ((2, 1), (4, 1), HALVES, ring), ((4, 1), None, HALVES, ring))
        self.assertIs(is_table(sheet, 0, cut), False)
        self.assertIs(is_table(FRAME, 0, cut), True)

    def test_a_stretch_that_is_even_at_one_width(self):
        # RULE 1 has less ease than RULE 0, but at 4, just at a corner, as much; 2 and 3 hold all half way.
        bent = (((-1, 1), (-2, 1)), ((0, 1), (-1, 1)), ((2, 1), (2, 1)), ((4, 1), (3, 1)), ((5, 1), (4, 1)))
        low = (((0, 1), (-99, 1)), ((1, 1), (-98, 1)))
        sheet = (3, FRAME[1], ((0, 1, PLAIN), (1, 2, bent), (0, 1, low), (1, 2, low)))
        lowest, others = (("ease", 2), ("ease", 3), ("hard", 0)), (("ease", 1), ("hard", 0), ("ease", 2))
        rings = (ROUND, others, lowest, lowest)
        self.assertTrue(plainly.stretch_holds(sheet, 0, (None, None, HALVES, rings)))
        self.assertIs(is_table(sheet, 0, ((None, None, HALVES, rings),)), True)
        self.assertEqual(lines_of(sheet, 0), [(None, None, HALVES)])
        # The other way about it does not hold: but at that width.
        rings = (lowest[1:] + (("ease", 0),), (("ease", 1), ("hard", 0), ("ease", 0)), lowest, lowest)
        self.assertIs(is_table(sheet, 0, ((None, None, HALVES, rings),)), False)

    def test_no_other_thing(self):
        self.assertIs(is_table(FRAME, 0, WHOLE), True)
        first, last, lines, rings = WHOLE[0]
        deep = ((0, 1), (0, 1))
        wrong = [(first, last, lines), (first, last, lines, rings, ()), [first, last, lines, rings],
                 (first, last, list(lines), rings), (first, last, lines, list(rings)), (first, last, lines[:2], rings),
                 (first, last, lines + (deep,), rings), (first, last, lines, rings[:1]),
                 (first, last, lines, rings * 2),
                 (first, last, lines, (ROUND, ROUND[:2])), (first, last, lines, (ROUND, list(ROUND))),
                 (first, last, ((0, 1),) * 3, rings), (first, last, (((0, 1), (False, 1)),) + lines[1:], rings),
                 (first, last, lines[:1] + (((0, 1), (2, 4)),) + lines[2:], rings), (first, last, lines, None),
                 (first, last, None, rings), ((0, 1), last, lines, rings), (first, (0, 1), lines, rings),
                 (False, last, lines, rings), (first, 0, lines, rings), (first, last, lines, (ROUND, (("ease", 1),))),
                 (first, last, (((1, 1), (0, 1)),) + lines[1:], rings), (first, last, lines, ((), ())), None, (), 7]
        for stretch in wrong:
            self.assertIs(is_table(FRAME, 0, (stretch,)), False, stretch)
        for thing in ODD_THINGS + (WHOLE + WHOLE, WHOLE[0], [WHOLE[0]], ()):
            self.assertIs(is_table(FRAME, 0, thing), False)
        for end in ("ab", 5, (5,), [5, 1], (5, 0), (5, True), ("5", 1), (None, None), ((5, 1), (6, 1))):
            for stretch in ((end, (9, 1), lines, rings), ((0, 1), end, lines, rings), (end, None, lines, rings),
                            (None, end, lines, rings), (end, end, lines, rings)):
                self.assertIs(is_table(FRAME, 0, (stretch,)), False)
        one, two = (None, (5, 1), lines, rings), ((5, 1), None, lines, rings)
        self.assertIs(is_table(FRAME, 0, (one, two)), True)
        for thing in ((two, one), (one, one), (one,), (two,), (one, ((6, 1),) + two[1:]), (one, ((4, 1),) + two[1:]),
                      (one, ((5, 1), (5, 1), lines, rings), two), (one, (None,) + two[1:]), (WHOLE[0], two),
                      (one, ((5, 1), (4, 1), lines, rings), ((4, 1),) + two[1:]), (one, WHOLE[0])):
            self.assertIs(is_table(FRAME, 0, thing), False)


class Much(unittest.TestCase):
    def test_more_than_400(self):
        fine, more = [(3, FRAME[1], (FRAME[2][0], (1, 2, stairs(many)))) for many in (401, 402)]
        self.assertEqual(len(lines_of(fine, 0)), 400)
        for deed in (table, lines_of, bends):
            with self.assertRaises(TooMuch) as caught:
                deed(more, 0)
            self.assertEqual(vars(caught.exception), {})
        # The others do not go through them all.
        self.assertEqual(laid_at(more, 0, (0, 1)), ((0, 1), (0, 1), (0, 1)))
        self.assertIsNone(least_width(more, 0))
        self.assertIs(is_table(more, 0, WHOLE), False)

    def test_as_many_below_0_as_above(self):
        moved = tuple(((gap[0] - 201, 1), (ease[0] - 201, 1)) for gap, ease in stairs(402))
        with self.assertRaises(TooMuch):
            lines_of((3, FRAME[1], (FRAME[2][0], (1, 2, moved))), 0)
        self.assertEqual(len(lines_of((3, FRAME[1], (FRAME[2][0], (1, 2, moved[:-1]))), 0)), 400)

    def test_each_call_comes_to_an_end_in_seconds(self):
        row, done = Row(355), 0
        while done < 6:
            sheet = big_sheet(row)
            if not is_free(sheet, 0):
                continue
            done += 1
            start = time.monotonic()
            told = table(sheet, 0)
            self.assertIs(is_table(sheet, 0, told), True)
            self.assertLess(time.monotonic() - start, 20)
            for first, last, lines, _ in told[::3]:
                if last is not None:
                    at = plainly.at_width(sheet, 0, Fraction(*last))
                    self.assertTrue(plainly.is_fairest(at, plainly.places_by(lines, Fraction(*last))))


class Errors(unittest.TestCase):
    def calls(self, sheet, place):
        return [lambda: is_free(sheet, place), lambda: least_width(sheet, place),
                lambda: sheet_at(sheet, place, (1, 1)), lambda: table(sheet, place),
                lambda: is_table(sheet, place, WHOLE), lambda: lines_of(sheet, place), lambda: bends(sheet, place),
                lambda: laid_at(sheet, place, (1, 1))]

    def test_no_place_ahead_of_all(self):
        for sheet in (FRAME, PINNED, (2, (), ((0, 1, PLAIN),))):
            for place in (len(sheet[1]), -1, 77):
                for call in self.calls(sheet, place):
                    with self.assertRaises(NoPlace) as caught:
                        call()
                    self.assertEqual(vars(caught.exception), {"place": place})

    def test_unfit_whatever_thing_is(self):
        for thing in ODD_THINGS + (WHOLE,):
            with self.assertRaises(Unfit):
                is_table(PINNED, 1, thing)
        self.assertEqual(sheet_at(PINNED, 1, (9, 1))[1][1], (2, 1, (-9, 1)))

    def test_each_list_is_new_and_arguments_stay(self):
        sheet, width = listed(NEAR), [9, 1]
        lines_of(sheet, 0).append(None)
        bends(sheet, 0).append(None)
        self.assertEqual((len(lines_of(sheet, 0)), bends(sheet, 0)), (2, [(6, 1)]))
        table(sheet, 0), is_table(sheet, 0, ()), laid_at(sheet, 0, width), sheet_at(sheet, 0, width), is_free(sheet, 0)
        least_width(sheet, 0)
        self.assertEqual((sheet, width), (listed(NEAR), [9, 1]))


if __name__ == "__main__":
    unittest.main()
