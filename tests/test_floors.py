"""[2], [3], [19]: floors, against whole numbers at many t, their shares and their mean."""

import time
import unittest
from fractions import Fraction

import plainly
from drawn import (ODD_THINGS, PLAIN, Row, bent, drawn_places, drawn_round_sheets, drawn_sheets, listed, pair)

from likecuts.errors import Afloat, Loose, NoRoom, Unfit
from likecuts.floors import (fairest_floor, floor_at, floor_steps, floored, floors, is_floor, is_mean, is_whole)
from likecuts.layouts import fairer
from likecuts.towers import fairest

FOUR = (3, ((2, 0, (-4, 1)),), ((0, 1, PLAIN), (1, 2, PLAIN)))
THIRDS = ((0, 1), (4, 3), (8, 3))
EVEN = ((0, 1), (2, 1), (4, 1))
LONE = (1, (), ())
HALF = (2, ((0, 1, (1, 2)),), ())
LOOSE, FLOATING = (2, (), ((0, 1, PLAIN),)), (3, (), ((0, 1, PLAIN), (1, 0, PLAIN)))
SHUT = (2, ((0, 1, (2, 1)), (1, 0, (-1, 1))), ((0, 1, PLAIN), (1, 0, PLAIN)))


def in_whole_points(sheet):
    """The SHEET with each far a whole number: none of its RINGS comes to more by that."""
    return (sheet[0], tuple((i, j, (Fraction(*far).__floor__(), 1)) for i, j, far in sheet[1]), sheet[2])


def with_layouts(seed, many=45):
    """SHEETS in whole points, each with LAYOUTS: any, the fairest one, one all of whose places are whole."""
    row, found = Row(seed), [(FOUR, [THIRDS, EVEN, fairest(FOUR)]), (LONE, [((0, 1),)])]
    for sheet in drawn_sheets(seed + 1, many) + drawn_round_sheets(seed + 2, many):
        sheet = in_whole_points(sheet)
        if plainly.without_room(sheet):
            continue
        layouts = [plainly.some_layout(sheet, drawn_places(row, sheet[0])) for _ in range(2)]
        layouts.append(plainly.some_layout(sheet, [Fraction(row.between(-5, 5)) for _ in range(sheet[0])]))
        # Places that end alike: at one t more than one goes up.
        layouts.append(plainly.some_layout(sheet, [Fraction(0)] + [Fraction(row.between(-9, 9), 2)
                                                                   for _ in range(sheet[0] - 1)]))
        if plainly.does_stand(sheet):
            layouts.append(fairest(sheet))
        found.append((sheet, layouts))
    return found


def many_t(layout):
    """Many t, those at which floors change among them, as Python's own fractions."""
    ends = {Fraction(0)} | {-Fraction(*place) % 1 for place in layout}
    ends = sorted(ends) + [Fraction(1)]
    between = [(low + high) / 2 for low, high in zip(ends, ends[1:])]
    near = [high - Fraction(1, 10 ** 9) for high in ends[1:]]
    return sorted(set(ends[:-1] + between + near + [Fraction(at, 7) for at in range(7)]))


class Floors(unittest.TestCase):
    def test_at_many_t(self):
        seen = set()
        for sheet, layouts in with_layouts(461):
            self.assertIs(is_whole(sheet), True)
            for layout in layouts:
                seen.add(self.one_layout(sheet, layout))
        self.assertTrue({1, 2, 3, 4} <= seen)

    def one_layout(self, sheet, layout):
        rows, steps = floors(sheet, layout), []
        last = None
        for t in many_t(layout):
            own = plainly.floor_of(layout, t)
            self.assertTrue(plainly.keeps(sheet, own))
            self.assertEqual(floor_at(sheet, layout, pair(t)), own)
            self.assertEqual(floor_at(t=list(pair(t)), layout=listed(layout), sheet=listed(sheet)), own)
            self.assertIs(is_floor(sheet, layout, own), True)
            if own != last:
                steps.append((t, own))
            last = own
        self.assertEqual(floor_steps(sheet, layout), tuple(pair(t) for t, _ in steps))
        self.assertEqual(floor_steps(layout=listed(layout), sheet=listed(sheet)), floor_steps(sheet, layout))
        ends = [t for t, _ in steps[1:]] + [Fraction(1)]
        self.assertEqual(rows, [(own, pair(end - t)) for (t, own), end in zip(steps, ends)])
        self.assertEqual(floors(layout=listed(layout), sheet=listed(sheet)), rows)
        self.assertLessEqual(len(rows), sheet[0])
        self.near(sheet, layout, rows)
        self.means(sheet, layout, rows)
        return len(rows)

    def near(self, sheet, layout, rows):
        """Each gap less than 1 off, and up just as often as it is above a whole number."""
        for i in range(sheet[0]):
            for j in range(sheet[0]):
                gap, up = plainly.gap(layout, (i, j)), Fraction(0)
                for own, share in rows:
                    self.assertLess(abs(plainly.gap(own, (i, j)) - gap), 1)
                    up += Fraction(*share) * (plainly.gap(own, (i, j)) > gap.__floor__())
                self.assertEqual(up, gap % 1)

    def means(self, sheet, layout, rows):
        self.assertIs(is_mean(sheet, layout, tuple(rows)), True)
        self.assertIs(is_mean(thing=tuple(rows), layout=listed(layout), sheet=listed(sheet)), True)
        self.assertIs(is_mean(sheet, layout, rows), False)
        self.assertIs(is_mean(sheet, layout, tuple(rows[::-1])), True)
        told = [fairer(sheet, own, rows[0][0]) for own, _ in rows]
        best = rows[0][0]
        for own, _ in rows:
            if plainly.compare(plainly.eases(sheet, own), plainly.eases(sheet, best)) > 0:
                best = own
        self.assertEqual(len(told), len(rows))
        self.assertEqual(fairest_floor(sheet, layout), best)
        self.assertEqual(fairest_floor(layout=listed(layout), sheet=listed(sheet)), best)

    def test_no_other_floor(self):
        row, seen = Row(465), set()
        for sheet, layouts in with_layouts(466, 25):
            for layout in layouts:
                every = [own for own, _ in floors(sheet, layout)]
                for own in every:
                    self.assertIs(is_floor(thing=own, layout=listed(layout), sheet=listed(sheet)), True)
                    self.assertIs(is_floor(sheet, layout, list(own)), False)
                    self.assertIs(is_floor(sheet, layout, listed(own)), False)
                    for _ in range(4):
                        thing = bent(row, own)
                        right = thing in every and not has_odd(thing)
                        seen.add(right)
                        self.assertIs(is_floor(sheet, layout, thing), right, (sheet, layout, thing))
                for t in (0, 1):
                    other = plainly.floor_of(layouts[0], Fraction(t, 2))
                    self.assertIs(is_floor(sheet, layout, other), other in every)
        self.assertEqual(seen, {True, False})
        for thing in ODD_THINGS + (((0, 1), (True, 1), (2, 1)), ((0, 1), (1, 1)), ((0, 1), (2, 1), (2, 1))):
            self.assertIs(is_floor(FOUR, THIRDS, thing), False)

    def test_edges(self):
        # All places whole: just one floor, all the way.
        self.assertEqual(floors(FOUR, EVEN), [(EVEN, (1, 1))])
        self.assertEqual((floor_steps(FOUR, EVEN), floor_at(FOUR, EVEN, (99, 100))), (((0, 1),), EVEN))
        self.assertEqual((floors(LONE, ((0, 1),)), floored(LONE)), ([(((0, 1),), (1, 1))], ((0, 1),)))
        # The same t for more THINGS.
        both = ((0, 1), (1, 2), (5, 2))
        self.assertEqual(floors(FOUR, both), [(((0, 1), (0, 1), (2, 1)), (1, 2)), (((0, 1), (1, 1), (3, 1)), (1, 2))])
        # Below 0, too: -1 / 3 goes up by 1 / 3.
        self.assertEqual(floor_steps((2, (), ()), ((0, 1), (-1, 3))), ((0, 1), (1, 3)))
        self.assertEqual(floors((2, (), ()), ((0, 1), (-1, 3))),
                         [(((0, 1), (-1, 1)), (1, 3)), (((0, 1), (0, 1)), (2, 3))])

    def test_of_two_fairest_that_of_the_least_t(self):
        # Gaps 1 and 1, 1 and 2, 2 and 1: the last two are eased alike.
        self.assertEqual([fairer(FOUR, own, THIRDS) for own, _ in floors(FOUR, THIRDS)], [-1, -1, -1])
        self.assertEqual(fairer(FOUR, floors(FOUR, THIRDS)[1][0], floors(FOUR, THIRDS)[2][0]), 0)
        self.assertEqual(fairest_floor(FOUR, THIRDS), ((0, 1), (1, 1), (3, 1)))
        # Without counted RULES all are alike.
        self.assertEqual(fairest_floor((2, (), ()), ((0, 1), (7, 2))), ((0, 1), (3, 1)))

    def test_floored(self):
        seen = set()
        for sheet, _ in with_layouts(468):
            if not plainly.does_stand(sheet):
                continue
            layout = fairest(sheet)
            own = floored(sheet)
            self.assertTrue(plainly.is_fairest(sheet, layout) and plainly.keeps(sheet, own))
            self.assertEqual(own, fairest_floor(sheet, layout))
            self.assertEqual(floored(sheet=listed(sheet)), own)
            seen.add(own == layout)
            self.assertNotEqual(fairer(sheet, own, layout), 1)
        self.assertEqual(seen, {True, False})
        fives = (3, ((2, 0, (-5, 1)),), FOUR[2])
        self.assertEqual((fairest(fives)[1], floored(fives)), ((5, 2), ((0, 1), (2, 1), (5, 1))))


def has_odd(value):
    """Whether a list or a bool stands in it: these are equal to what they are not."""
    if isinstance(value, (tuple, list)):
        return isinstance(value, list) or any(has_odd(own) for own in value)
    return isinstance(value, bool)


class Means(unittest.TestCase):
    def is_one(self, sheet, layout, thing):
        """Whether thing is a SPREAD whose mean is layout, by Python's own fractions."""
        if has_odd(thing) or not isinstance(thing, tuple) or not thing:
            return False
        mean, shares = [Fraction(0)] * sheet[0], Fraction(0)
        for own in thing:
            if not isinstance(own, tuple) or len(own) != 2 or not self.is_fraction(own[1]) or own[1][0] < 1:
                return False
            if not isinstance(own[0], tuple) or not all(self.is_fraction(place) for place in own[0]):
                return False
            if not own[0] or not plainly.keeps(sheet, own[0]) or any(place[1] != 1 for place in own[0]):
                return False
            shares += Fraction(*own[1])
            mean = [far + Fraction(*place) * Fraction(*own[1]) for far, place in zip(mean, own[0])]
        return shares == 1 and tuple(pair(far) for far in mean) == layout

    def is_fraction(self, value):
        return (isinstance(value, tuple) and len(value) == 2 and all(isinstance(own, int) for own in value)
                and value[1] > 0 and pair(Fraction(*value)) == value)

    def test_bent(self):
        row, seen = Row(471), set()
        for sheet, layouts in with_layouts(472, 30):
            for layout in layouts:
                rows = tuple(floors(sheet, layout))
                for _ in range(6):
                    thing = bent(row, rows)
                    right = self.is_one(sheet, layout, thing)
                    seen.add(right)
                    self.assertIs(is_mean(sheet, layout, thing), right, (sheet, layout, thing))
                # The one share in two, of two alike pairs.
                own, share = row.one_of(rows)
                half = pair(Fraction(*share) / 2)
                left = tuple(other for other in rows if other != (own, share))
                self.assertIs(is_mean(sheet, layout, left + ((own, half), (own, half))), True)
                self.assertIs(is_mean(sheet, layout, left + ((own, half),)), False)
        self.assertEqual(seen, {True, False})

    def test_edges(self):
        wide, low = ((0, 1), (2, 1), (4, 1)), ((0, 1), (0, 1), (2, 1))
        mean = ((0, 1), (1, 1), (3, 1))
        self.assertIs(is_mean(FOUR, mean, ((wide, (1, 2)), (low, (1, 2)))), True)
        # Alike pairs, shares that are not 1 together, of 0 or below; places that are not whole, no LAYOUT; a mean else.
        self.assertIs(is_mean(FOUR, mean, ((wide, (1, 4)), (low, (1, 2)), (wide, (1, 4)))), True)
        for thing in ((), ((wide, (1, 2)),), ((wide, (1, 2)), (low, (1, 3))), ((wide, (2, 4)), (low, (1, 2))),
                      ((wide, (1, 2)), (low, (1, 2)), (low, (0, 1))), ((wide, (1, 1)), (low, (1, 1)), (low, (-1, 1))),
                      ((mean, (2, 1)), (mean, (-1, 1))), ((wide, (1, 3)), (low, (2, 3))), [(wide, (1, 2)), (low, (1, 2))],
                      ([wide, (1, 2)], [low, (1, 2)]), ((wide, (1, 2), 0), (low, (1, 2))), ((mean, True),), ((mean,),),
                      (((0, 1), (1, 2), (5, 2)), (1, 1)), (((5, 1), (6, 1), (8, 1)), (1, 1)), mean, (mean, (1, 1))):
            self.assertIs(is_mean(FOUR, mean, thing), False, thing)
        thirds = (((0, 1), (4, 3), (8, 3)), (1, 1))
        self.assertIs(is_mean(FOUR, THIRDS, (thirds,)), False)
        self.assertIs(is_mean(FOUR, mean, ((mean, (1, 1)),)), True)
        # LAYOUTS they must be: 2 at 5 is too far.
        self.assertIs(is_mean(FOUR, mean, ((((0, 1), (1, 1), (5, 1)), (1, 2)), (((0, 1), (1, 1), (1, 1)), (1, 2)))), False)
        for thing in ODD_THINGS:
            self.assertIs(is_mean(FOUR, mean, thing), False)
        # Also where some far is not whole.
        self.assertIs(is_mean(HALF, ((0, 1), (3, 2)), ((((0, 1), (1, 1)), (1, 2)), (((0, 1), (2, 1)), (1, 2)))), True)
        self.assertIs(is_mean(HALF, ((0, 1), (1, 2)), ((((0, 1), (1, 1)), (1, 2)), (((0, 1), (0, 1)), (1, 2)))), False)


class Errors(unittest.TestCase):
    def test_far_that_is_not_whole_first_of_all(self):
        self.assertIs(is_whole(HALF), False)
        self.assertIs(is_whole(sheet=listed(HALF)), False)
        self.assertIs(is_whole((3, ((0, 1, (5, 1)), (1, 2, (7, 3))), ())), False)
        bent_scale = (((1, 2), (1, 3)), ((3, 2), (5, 3)))
        self.assertIs(is_whole((2, ((0, 1, (5, 1)),), ((0, 1, bent_scale),))), True)
        places = ((0, 1), (3, 2))
        calls = [lambda: floor_at(HALF, places, (0, 1)), lambda: floor_steps(HALF, places), lambda: floors(HALF, places),
                 lambda: fairest_floor(HALF, places)]
        calls += [lambda thing=thing: is_floor(HALF, places, thing) for thing in ODD_THINGS]
        for call in calls:
            with self.assertRaises(Unfit) as caught:
                call()
            self.assertEqual(vars(caught.exception), {})

    def test_floored_behind_what_the_sheet_raises(self):
        half = ((0, 1, (-9, 2)),)
        for sheet, kind in ((LOOSE, Loose), (FLOATING, Afloat), (SHUT, NoRoom)):
            for own in (sheet, (sheet[0], sheet[1] + half, sheet[2])):
                with self.assertRaises(kind):
                    floored(own)
        with self.assertRaises(Unfit):
            floored((2, half, ((0, 1, PLAIN), (1, 0, PLAIN))))

    def test_each_list_is_new_and_arguments_stay(self):
        sheet, layout, t = listed(FOUR), listed(THIRDS), [1, 2]
        floors(sheet, layout).append(None)
        self.assertEqual(len(floors(sheet, layout)), 3)
        floor_at(sheet, layout, t), floor_steps(sheet, layout), is_floor(sheet, layout, None), floored(sheet)
        is_mean(sheet, layout, ()), fairest_floor(sheet, layout), is_whole(sheet)
        self.assertEqual((sheet, layout, t), (listed(FOUR), listed(THIRDS), [1, 2]))

    def test_each_call_comes_to_an_end_in_seconds(self):
        start = time.monotonic()
        sheet = (8, tuple((7, 0, (-1000 - k, 1)) for k in range(6)), tuple((i, i + 1, PLAIN) for i in range(7)) * 2)
        layout = fairest(sheet)
        self.assertEqual(len(floors(sheet, layout)), 7)
        self.assertIs(is_mean(sheet, layout, tuple(floors(sheet, layout))), True)
        floored(sheet)
        self.assertLess(time.monotonic() - start, 10)


if __name__ == "__main__":
    unittest.main()
