"""[2], [3], [16]: widths that are apart, widths of an ease, against the fairest LAYOUTS at many single widths."""

import time
import unittest
from fractions import Fraction
from functools import lru_cache

import plainly
from drawn import ODD_THINGS, PLAIN, Row, big_sheet, drawn_round_sheets, listed, pair, stairs

from likecuts.apart import alike_widths, first_apart, is_apart_width, width_for, widths_of_ease
from likecuts.edits import movers, moves
from likecuts.errors import Afloat, CanNot, Loose, NoPlace, NoRoom, TooMuch, Unfit
from likecuts.rates import is_bend, reach_back, reach_on
from likecuts.towers import fairest
from likecuts.widths import is_free, lines_of

FRAME = (3, ((2, 0, (-4, 1)),), ((0, 1, PLAIN), (1, 2, PLAIN)))
NEAR = (3, FRAME[1] + ((0, 1, (3, 1)),), FRAME[2])
LOW = (3, NEAR[1] + ((1, 2, (0, 1)),), NEAR[2])
PINNED = (3, ((1, 2, (2, 1)), (2, 1, (-2, 1))), ((0, 1, PLAIN), (1, 0, PLAIN)))
HALF = (((0, 1), (0, 1)), ((1, 1), (2, 1)))


def all_free(seed, many):
    some = [FRAME, NEAR, LOW] + drawn_round_sheets(seed, many, 4)
    return [(sheet, place) for sheet in some for place in range(len(sheet[1])) if plainly.is_free(sheet, place)]


def ends_of(*tables):
    return sorted({Fraction(*end) for rows in tables for row in rows for end in row[:2] if end is not None})


def some_widths(*tables):
    """Widths at each end, beside them, between them and far beyond."""
    ends = ends_of(*tables) or [Fraction(0)]
    some = ends + [(low + high) / 2 for low, high in zip(ends, ends[1:])]
    some += [own + by for own in ends for by in (Fraction(1, 10 ** 7), Fraction(-1, 10 ** 7))]
    return sorted(some + [ends[0] - 1000, ends[0] - 3, ends[-1] + 3, ends[-1] + 100000])


@lru_cache(maxsize=None)
def laid(sheet, place, width):
    """The fairest LAYOUT at this width; None where it does not stand."""
    low = plainly.least_width(sheet, place)
    if low is not None and width < low:
        return None
    told = plainly.at_width(sheet, place, width)
    layout = fairest(told)
    assert plainly.is_fairest(told, layout)
    return layout


def neighbours(row, sheet, place):
    """Pairs of a SHEET and a place that are laid as this one is, or nearly so."""
    many, hard, counted = sheet
    found = [(sheet, place), ((many, hard * 2, counted), place), ((many, hard, counted * 2), place)]
    found.append(((many, hard[:place] + ((hard[place][:2]) + ((7, 3),),) + hard[place + 1:], counted[::-1]), place))
    if hard[:place] + hard[place + 1:]:
        # Its other hard RULES turned about: the place is another one.
        found.append(((many, hard[::-1], counted), len(hard) - 1 - place))
    i = row.below(many)
    j = (i + 1 + row.below(many - 1)) % many
    found.append(((many, hard + ((i, j, row.fraction(30)),), counted), place))
    found.append(((many, hard, counted + ((i, j, row.scale()),)), place))
    k = row.below(len(counted)) if counted else None
    if counted:
        found.append(((many, hard, counted[:k] + (counted[k][:2] + (row.scale(),),) + counted[k + 1:]), place))
        end = counted[k][2][-1]
        more = (pair(Fraction(*end[0]) + 9), pair(Fraction(*end[1]) + 2))
        found.append(((many, hard, counted[:k] + (counted[k][:2] + (counted[k][2] + (more,),),) + counted[k + 1:]),
                      place))
    return [own for own in found if plainly.is_free(*own)]


class Apart(unittest.TestCase):
    def test_two_sheets(self):
        row, seen = Row(361), set()
        for sheet, place in all_free(362, 16):
            for other, spot in neighbours(row, sheet, place):
                seen.add(self.both(sheet, place, other, spot))
                self.both(other, spot, sheet, place)
        self.assertEqual(seen, {None, (False, False), (True, True), (True, False)})

    def both(self, sheet, place, other, spot):
        """What first_apart tells: None, or whether there is a width, and whether it is apart itself."""
        widths = some_widths(lines_of(sheet, place), lines_of(other, spot))
        apart = [own for own in widths if laid(sheet, place, own) != laid(other, spot, own)]
        # Where lines meet at a single width, between others.
        self.assertIs(alike_widths(sheet, place, other, spot), not apart)
        self.assertIs(alike_widths(spot=spot, other=listed(other), place=place, sheet=listed(sheet)), not apart)
        for own in widths:
            self.assertIs(is_apart_width(sheet, place, other, spot, pair(own)), own in apart)
        self.assertIs(is_apart_width(thing=pair(own), spot=spot, other=listed(other), place=place,
                                     sheet=listed(sheet)), own in apart)
        self.assertIs(is_apart_width(sheet, place, other, spot, list(pair(own))), False)
        told = first_apart(sheet, place, other, spot)
        self.assertEqual(first_apart(spot=spot, other=listed(other), place=place, sheet=listed(sheet)), told)
        if told is None:
            self.assertEqual(apart, [])
            return None
        width, at = told
        if width is None:
            self.assertIs(at, False)
            ends = ends_of(lines_of(sheet, place), lines_of(other, spot)) or [Fraction(0)]
            # Two lines meet but once: below all ends some width as low as one likes is apart.
            for low in (ends[0] - 10 ** 4, ends[0] - 10 ** 8):
                self.assertTrue(any(laid(sheet, place, low - by) != laid(other, spot, low - by) for by in range(3)))
            return False, False
        width = Fraction(*width)
        self.assertFalse(any(own < width for own in apart))
        self.assertIs(at, laid(sheet, place, width) != laid(other, spot, width))
        if not at:
            above = width + Fraction(1, 10 ** 7)
            self.assertNotEqual(laid(sheet, place, above), laid(other, spot, above))
        return True, at

    def test_edges(self):
        # Least widths 3 and 5: from 3 on just one of them stands.
        more = (3, LOW[1] + ((1, 2, (2, 1)),), LOW[2])
        self.assertEqual(first_apart(LOW, 0, more, 0), ((3, 1), True))
        self.assertEqual(first_apart(more, 0, LOW, 0), ((3, 1), True))
        self.assertIs(is_apart_width(LOW, 0, more, 0, (3, 1)), True)
        self.assertIs(is_apart_width(LOW, 0, more, 0, (29, 10)), False)
        # Both from 0 on, 1 at elsewhere than 1 at once; or not before they are wider.
        boxed = (3, ((2, 0, (-4, 1)), (0, 2, (0, 1))), FRAME[2])
        shifted = (3, boxed[1], (FRAME[2][0], (1, 2, (((1, 1), (0, 1)), ((2, 1), (1, 1))))))
        steep = (3, boxed[1], (FRAME[2][0], (1, 2, HALF)))
        self.assertEqual(first_apart(boxed, 0, shifted, 0), ((0, 1), True))
        self.assertEqual(first_apart(boxed, 0, steep, 0), ((0, 1), False))
        self.assertIs(is_apart_width(boxed, 0, steep, 0, (0, 1)), False)
        self.assertIs(is_apart_width(boxed, 0, steep, 0, (1, 10 ** 9)), True)
        # Lines that meet at a single width.
        self.assertEqual(first_apart(FRAME, 0, (3, FRAME[1], steep[2]), 0), (None, False))
        self.assertIs(is_apart_width(FRAME, 0, (3, FRAME[1], steep[2]), 0, (0, 1)), False)
        # Another RULE told by the width: the least width is another one.
        self.assertEqual(first_apart(LOW, 0, LOW, 0), None)
        self.assertIs(alike_widths(FRAME, 0, (3, FRAME[1], FRAME[2][::-1]), 0), True)

    def test_no_other_thing(self):
        for thing in ODD_THINGS + ((2, 4), (9, True), [9, 1], 9, (9, 1, 1), ((9, 1),), (9, -1), (9, 0)):
            told = thing in ((0, 1), (-1, 1)) and thing.__class__ is tuple and not any(
                isinstance(own, bool) for own in thing)
            self.assertIs(is_apart_width(FRAME, 0, NEAR, 0, thing), told)
        self.assertIs(is_apart_width(FRAME, 0, NEAR, 0, (10 ** 50, 7)), False)
        self.assertIs(is_apart_width(FRAME, 0, NEAR, 0, (-10 ** 50, 7)), True)


class OfEase(unittest.TestCase):
    def test_widths_of_ease(self):
        seen = set()
        for sheet, place in all_free(371, 25):
            rows = lines_of(sheet, place)
            widths = some_widths(rows)
            for number in range(len(sheet[2])):
                told = {}
                for width in widths:
                    layout = laid(sheet, place, width)
                    if layout is not None:
                        told[width] = plainly.eases(sheet, layout)[number]
                for ease in sorted(set(told.values()))[::3] + [Fraction(1, 977)]:
                    seen.update(self.one_ease(sheet, place, number, ease, told))
        self.assertEqual(seen, {"none", "a width alone", "from on", "to", "between", "all"})

    def one_ease(self, sheet, place, number, ease, told):
        found = widths_of_ease(sheet, place, number, pair(ease))
        self.assertEqual(widths_of_ease(ease=list(pair(ease)), number=number, place=place, sheet=listed(sheet)), found)
        kinds, last = set() if found else {"none"}, None
        for at, (first, end) in enumerate(found):
            low, high = [None if own is None else Fraction(*own) for own in (first, end)]
            if at > 0:
                self.assertLess(last, low)
            last = high
            kinds.add("all" if low is high else "to" if low is None else "from on" if high is None
                      else "a width alone" if low == high else "between")
            for own in (low, high):
                if own is not None:
                    self.assertEqual(plainly.eases(sheet, laid(sheet, place, own))[number], ease)
            # The longest ones: just beyond it is another ease, or does not stand.
            for own in (None if low is None else low - Fraction(1, 10 ** 8),
                        None if high is None else high + Fraction(1, 10 ** 8)):
                if own is not None and laid(sheet, place, own) is not None:
                    self.assertNotEqual(plainly.eases(sheet, laid(sheet, place, own))[number], ease)
        for width, own in told.items():
            within = any((low is None or Fraction(*low) <= width) and (high is None or width <= Fraction(*high))
                         for low, high in found)
            self.assertIs(within, own == ease)
        return kinds

    def test_stretches_that_meet(self):
        # The ease of the first gap is 3 to the left of 6 and goes on from there; it is 3 through two lines of another.
        self.assertEqual(widths_of_ease(NEAR, 0, 0, (3, 1)), [(None, (6, 1))])
        self.assertEqual(widths_of_ease(NEAR, 0, 1, (3, 1)), [((6, 1), (6, 1))])
        self.assertEqual(widths_of_ease(NEAR, 0, 1, (-3, 1)), [((0, 1), (0, 1))])
        long = (4, NEAR[1] + ((3, 0, (-20, 1)),), NEAR[2] + ((2, 3, PLAIN),))
        self.assertEqual(len(lines_of(long, 0)), 3)
        self.assertEqual(widths_of_ease(long, 0, 0, (3, 1)), [(None, (6, 1))])
        held = (3, NEAR[1] + ((1, 0, (-3, 1)),), NEAR[2])
        self.assertEqual(widths_of_ease(held, 0, 0, (3, 1)), [(None, None)])
        both = (3, LOW[1] + ((1, 0, (-3, 1)), (2, 0, (-8, 1))), LOW[2])
        self.assertEqual(len(lines_of(both, 0)), 2)
        self.assertEqual(widths_of_ease(both, 0, 0, (3, 1)), [((3, 1), None)])
        self.assertEqual(widths_of_ease(both, 0, 1, (5, 1)), [((8, 1), None)])
        self.assertEqual(widths_of_ease(both, 0, 1, (0, 1)), [((3, 1), (3, 1))])

    def test_width_for(self):
        row, seen = Row(374), set()
        for sheet, place in all_free(375, 60):
            rest = plainly.without(sheet, ("hard", place))
            i, j, _ = sheet[1][place]
            for ease in [Fraction(*row.fraction()) for _ in range(4)]:
                if any(plainly.sum_at(rest, ring, ease) > 0 for ring in plainly.all_rings(rest)):
                    seen.add(CanNot)
                    for own in (pair(ease), list(pair(ease))):
                        with self.assertRaises(CanNot) as caught:
                            width_for(sheet, place, own)
                        self.assertEqual(vars(caught.exception), {})
                    continue
                sums = [plainly.sum_at(rest, way, ease) for way in plainly.ways_of_all(rest, j, i)]
                told = pair(max(sums)) if sums else None
                self.assertEqual(width_for(sheet, place, pair(ease)), told)
                self.assertEqual(width_for(ease=list(pair(ease)), place=place, sheet=listed(sheet)), told)
                seen.add(told is None)
                self.as_it_lies(sheet, place, ease, told)
        # All THINGS hang together, on RINGS: so some way always leads from the j of the RULE to its i.
        self.assertEqual(seen, {CanNot, False})

    def as_it_lies(self, sheet, place, ease, told):
        for by in (Fraction(0), Fraction(1, 10 ** 6), Fraction(40), Fraction(-1, 10 ** 6), Fraction(-3)):
            width = by if told is None else Fraction(*told) + by
            layout = laid(sheet, place, width)
            is_so = layout is not None and all(own >= ease for own in plainly.eases(sheet, layout))
            self.assertIs(is_so, told is None or by >= 0)

    def test_the_greatest_sum_and_can_not(self):
        free = (3, ((1, 2, (-4, 1)), (1, 2, (0, 1))), ((0, 1, PLAIN), (1, 0, PLAIN), (0, 2, PLAIN), (2, 0, PLAIN)))
        self.assertEqual(width_for(free, 0, (-1, 1)), (-2, 1))
        wide = (2, ((1, 0, (-9, 1)), (1, 0, (-5, 1))), ((0, 1, PLAIN),))
        self.assertEqual(width_for(wide, 0, (5, 1)), (5, 1))
        with self.assertRaises(CanNot):
            width_for(wide, 0, (6, 1))
        # No counted RULE at all: where it stands.
        fast = (2, ((0, 1, (2, 1)), (1, 0, (-2, 1)), (1, 0, (-3, 1))), ())
        self.assertEqual((width_for(fast, 2, (99, 1)), lines_of(fast, 2)[0][0]), ((2, 1), (2, 1)))


class Big(unittest.TestCase):
    def test_each_call_comes_to_an_end_in_seconds(self):
        row, done = Row(381), 0
        while done < 4:
            sheet, other = big_sheet(row), big_sheet(row)
            if not is_free(sheet, 0) or not is_free(other, 0):
                continue
            done += 1
            calls = [lambda: alike_widths(sheet, 0, other, 0), lambda: first_apart(sheet, 0, sheet, 0),
                     lambda: is_apart_width(sheet, 0, other, 0, (500, 1)), lambda: width_for(sheet, 0, (-999, 1)),
                     lambda: widths_of_ease(sheet, 0, 0, (0, 1)), lambda: moves(sheet, ("more", ("hard", 0), (-9, 7))),
                     lambda: is_bend(sheet, ("ease", 1)), lambda: reach_back(sheet, ("hard", 0)),
                     lambda: reach_on(sheet, ("ease", 0)), lambda: movers(sheet, ("out", ("ease", 12)))]
            for call in calls:
                start = time.monotonic()
                try:
                    call()
                except (NoRoom, Loose, Afloat, CanNot):
                    pass
                self.assertLess(time.monotonic() - start, 20)


class Errors(unittest.TestCase):
    def pairs(self, sheet, place, other, spot):
        return [lambda: alike_widths(sheet, place, other, spot), lambda: first_apart(sheet, place, other, spot),
                lambda: is_apart_width(sheet, place, other, spot, None),
                lambda: is_apart_width(sheet, place, other, spot, (1, 1))]

    def raised(self, call, kind, **told):
        with self.assertRaises(kind) as caught:
            call()
        self.assertEqual(vars(caught.exception), told)

    def test_no_place_then_unfit(self):
        two = (2, ((1, 0, (-4, 1)),), ((0, 1, PLAIN),))
        rows = ((FRAME, 1, NEAR, 9, 1), (PINNED, 2, two, -1, 2), (PINNED, 0, two, 1, 1), (FRAME, 0, PINNED, -1, -1),
                (PINNED, -3, FRAME, 0, -3))
        for sheet, place, other, spot, number in rows:
            for call in self.pairs(sheet, place, other, spot):
                self.raised(call, NoPlace, place=number)
        for sheet, place, other, spot in ((PINNED, 0, FRAME, 0), (FRAME, 0, PINNED, 1), (PINNED, 1, two, 0),
                                          (FRAME, 0, two, 0), (two, 0, NEAR, 1)):
            for call in self.pairs(sheet, place, other, spot):
                self.raised(call, Unfit)

    def test_numbers(self):
        for sheet in (FRAME, PINNED):
            many = len(sheet[1])
            for number in (2, -1, 55):
                self.raised(lambda: widths_of_ease(sheet, 0, number, (1, 1)), NoPlace, place=number)
                self.raised(lambda: widths_of_ease(sheet, many, number, (1, 1)), NoPlace, place=many)
            self.raised(lambda: width_for(sheet, many, (1, 1)), NoPlace, place=many)
            self.raised(lambda: width_for(sheet, -1, (1, 1)), NoPlace, place=-1)
        self.raised(lambda: widths_of_ease(PINNED, 0, 1, (1, 1)), Unfit)
        self.raised(lambda: width_for(PINNED, 0, (1, 1)), Unfit)

    def test_too_much_comes_through(self):
        more = (3, FRAME[1], (FRAME[2][0], (1, 2, stairs(402))))
        for call in (lambda: alike_widths(FRAME, 0, more, 0), lambda: first_apart(more, 0, FRAME, 0),
                     lambda: widths_of_ease(more, 0, 0, (1, 1))):
            self.raised(call, TooMuch)
        self.assertIs(is_apart_width(FRAME, 0, more, 0, (7, 1)), True)
        self.assertIs(is_apart_width(more, 0, FRAME, 0, (0, 1)), False)
        self.assertEqual(width_for(more, 0, (0, 1)), (0, 1))
        self.assertEqual(width_for(more, 0, (2, 1)), (3, 1))

    def test_each_list_is_new_and_arguments_stay(self):
        sheet, other, ease = listed(NEAR), listed(FRAME), [3, 1]
        widths_of_ease(sheet, 0, 0, ease).append(None)
        self.assertEqual(widths_of_ease(sheet, 0, 0, ease), [(None, (6, 1))])
        alike_widths(sheet, 0, other, 0), first_apart(sheet, 0, other, 0), width_for(sheet, 0, ease)
        is_apart_width(sheet, 0, other, 0, (1, 1))
        self.assertEqual((sheet, other, ease), (listed(NEAR), listed(FRAME), [3, 1]))


if __name__ == "__main__":
    unittest.main()
