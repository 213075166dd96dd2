"""[2], [3], [5]: SCALES."""

import unittest
from fractions import Fraction

from drawn import ODD_THINGS, Row, listed, pair

from likecuts.errors import Unfit
from likecuts.scales import (are_alike, ease_at, gap_at, is_scale, level_of, plain_scale, rate_at, shifted, together,
                             trimmed)

PLAIN = (((0, 1), (0, 1)), ((1, 1), (1, 1)))
BENT = (((0, 1), (0, 1)), ((2, 1), (2, 1)), ((4, 1), (3, 1)))
STEPS = (((-1, 1), (-3, 1)), ((0, 1), (0, 1)), ((2, 1), (1, 1)), ((3, 1), (5, 1)))


def told(scale, gap):
    """The ease for a gap, by the words of the document alone, in Python's own fractions."""
    corners = [(Fraction(*own), Fraction(*ease)) for own, ease in scale]
    gap = Fraction(*gap)
    for own, ease in corners:
        if own == gap:
            return pair(ease)
    if gap < corners[0][0]:
        low, high = corners[0], corners[1]
    elif gap > corners[-1][0]:
        low, high = corners[-2], corners[-1]
    else:
        at = [own < gap for own, _ in corners].count(True)
        low, high = corners[at - 1], corners[at]
    return pair(low[1] + (gap - low[0]) * (high[1] - low[1]) / (high[0] - low[0]))


def turned(scale):
    """The same corners, gap and ease having changed places."""
    return tuple((ease, gap) for gap, ease in scale)


def drawn_scales(seed, many):
    row = Row(seed)
    return [row.scale() for _ in range(many)]


def gaps_about(scale, row):
    """Gaps at each corner, between and beyond them, and anywhere."""
    gaps = [Fraction(*own) for own, _ in scale]
    some = gaps + [(low + high) / 2 for low, high in zip(gaps, gaps[1:])]
    some += [gaps[0] - 1, gaps[0] - 7, gaps[-1] + Fraction(1, 3), gaps[-1] + 1000]
    return [pair(own) for own in some] + [row.fraction(20) for _ in range(4)]


class IsScale(unittest.TestCase):
    def test_scales(self):
        for thing in (PLAIN, BENT, STEPS, tuple(((k, 1), (k, 2 if k % 2 else 1)) for k in (1, 3, 5))):
            self.assertIs(is_scale(thing), True, thing)
        self.assertIs(is_scale(tuple(((k, 1), (k, 1)) for k in range(300))), True)
        self.assertIs(is_scale(thing=(((1, 3), (10 ** 40, 1)), ((1, 2), (10 ** 40 + 1, 1)))), True)
        for scale in drawn_scales(1, 50):
            self.assertIs(is_scale(scale), True)

    def test_others(self):
        others = (
            (), PLAIN[:1], (PLAIN[0], PLAIN[0]), PLAIN[::-1], list(PLAIN), (list(PLAIN[0]), PLAIN[1]),
            (((0, 1), (0, 1)), ((1, 1), (0, 1))), (((0, 1), (0, 1)), ((0, 1), (1, 1))),
            (((0, 1), (0, 1)), ((1, 1), (-1, 1))), (((0, 1), (1, 1)), ((1, 1), (1, 2))),
            (((0, 1), (0, 1)), ((2, 2), (1, 1))), (((0, 1), (0, 1)), ((1, 1), (True, 1))),
            (((0, 1), (0, 1)), ((1, 1), (1, 1), (1, 1))), (((0, 1), (0, 1)), ((1, 1),)), (((0, 1), 0), ((1, 1), 1)),
            (((0, 1), (0, 1)), ([1, 1], (1, 1))), (((0, 1), (0, 1)), None), PLAIN + (((1, 1), (2, 1)),),
            PLAIN + (((2, 1), (1, 1)),), PLAIN + (None,), (((1, 2), (0, 1)), ((1, 3), (1, 1))), listed(PLAIN),
        )
        for thing in others + ODD_THINGS:
            self.assertIs(is_scale(thing), False, repr(thing)[:80])


class Told(unittest.TestCase):
    def test_ease_at_and_gap_at(self):
        row = Row(2)
        for scale in [PLAIN, BENT, STEPS] + drawn_scales(3, 120):
            for gap in gaps_about(scale, row):
                ease = told(scale, gap)
                self.assertEqual(ease_at(scale, gap), ease)
                self.assertEqual(gap_at(scale, ease), gap)
                self.assertEqual(ease_at(listed(scale), list(gap)), ease)
                self.assertEqual(gap_at(scale=listed(scale), ease=list(ease)), gap)
            for ease in gaps_about(turned(scale), row):
                self.assertEqual(gap_at(scale, ease), told(turned(scale), ease))

    def test_rates(self):
        row = Row(4)
        self.assertEqual(rate_at(STEPS, (0, 1)), ((3, 1), (1, 2)))
        self.assertEqual(rate_at(STEPS, (2, 1)), ((1, 2), (4, 1)))
        self.assertEqual(rate_at(STEPS, (-1, 1)), ((3, 1), (3, 1)))
        self.assertEqual(rate_at(STEPS, (3, 1)), ((4, 1), (4, 1)))
        self.assertEqual(rate_at(STEPS, (-50, 1)), ((3, 1), (3, 1)))
        self.assertEqual(rate_at(scale=listed(STEPS), gap=[50, 1]), ((4, 1), (4, 1)))
        for scale in drawn_scales(5, 80):
            # Nearer than any two corners, so that no bend lies between.
            near = Fraction(1, 10 ** 6)
            for gap in gaps_about(scale, row):
                here = Fraction(*told(scale, gap))
                below = here - Fraction(*told(scale, pair(Fraction(*gap) - near)))
                above = Fraction(*told(scale, pair(Fraction(*gap) + near))) - here
                self.assertEqual(rate_at(scale, gap), (pair(below / near), pair(above / near)))


class Made(unittest.TestCase):
    def test_plain_scale(self):
        for share in ((1, 1), (1, 3), (12, 1)):
            scale = plain_scale(share)
            self.assertEqual(scale, (((0, 1), (0, 1)), (share, (1, 1))))
            self.assertEqual(plain_scale(share=list(share)), scale)
            self.assertTrue(is_scale(plain_scale(list(share))))
            self.assertEqual(ease_at(scale, (5, 1)), pair(5 / Fraction(*share)))
        for share in ((0, 1), (-1, 1), (-1, 12), [0, 1]):
            with self.assertRaises(Unfit) as caught:
                plain_scale(share)
            self.assertEqual(vars(caught.exception), {})

    def test_shifted(self):
        row = Row(6)
        for scale in drawn_scales(7, 60):
            by = row.fraction()
            other = shifted(scale, by)
            self.assertTrue(is_scale(other))
            self.assertEqual(shifted(scale=listed(scale), by=list(by)), other)
            self.assertEqual([ease for _, ease in other], [ease for _, ease in scale])
            for gap in gaps_about(scale, row):
                self.assertEqual(told(other, pair(Fraction(*gap) + Fraction(*by))), told(scale, gap))

    def test_trimmed(self):
        straight = tuple(((k, 1), (2 * k, 1)) for k in range(4))
        self.assertEqual(trimmed(straight), (straight[0], straight[3]))
        self.assertEqual(trimmed(STEPS), STEPS)
        self.assertEqual(trimmed(PLAIN), PLAIN)
        self.assertEqual(trimmed(BENT + (((6, 1), (4, 1)),)), BENT[:2] + (((6, 1), (4, 1)),))
        for scale in drawn_scales(8, 60):
            self.assertEqual(trimmed(split(scale))[1:-1], trimmed(scale)[1:-1])
            self.assertTrue(is_scale(trimmed(listed(split(scale)))))

    def test_are_alike(self):
        row = Row(9)
        further = (((-5, 1), (-5, 1)), ((-4, 1), (-4, 1)))
        self.assertIs(are_alike(PLAIN, further), True)
        self.assertIs(are_alike(further, PLAIN), True)
        self.assertIs(are_alike(PLAIN, BENT), False)
        # The corners of the one lie on the other, which bends beyond them.
        self.assertIs(are_alike(BENT[:2], BENT), False)
        self.assertIs(are_alike(BENT, BENT[:2]), False)
        self.assertIs(are_alike(scale=BENT[1:], other=BENT), False)
        # Unlike only where their gaps are far beyond all of their eases.
        far = (((100, 1), (0, 1)), ((101, 1), (1, 1)), ((102, 1), (3, 1)))
        self.assertIs(are_alike(far, far[:2]), False)
        self.assertIs(are_alike(far[:2], far), False)
        scales = drawn_scales(10, 40)
        for scale in scales:
            self.assertIs(are_alike(scale, split(scale)), True)
            self.assertIs(are_alike(listed(split(scale)), listed(scale)), True)
            self.assertIs(are_alike(scale, shifted(scale, (1, 12))), False)
            other = row.one_of(scales)
            gaps = gaps_about(scale, row) + gaps_about(other, row)
            self.assertIs(are_alike(scale, other), all(told(scale, gap) == told(other, gap) for gap in gaps))


def split(scale):
    """A SCALE that tells the same: with one corner more in the middle, and with its ends told from farther out."""
    gaps = [Fraction(*own) for own, _ in scale]
    some = sorted(gaps[1:-1] + [(gaps[0] + gaps[1]) / 2, gaps[0] - 3, gaps[-1] + 2])
    return tuple((pair(gap), told(scale, pair(gap))) for gap in some)


class AddedUp(unittest.TestCase):
    def test_level_of(self):
        row = Row(11)
        for step in range(120):
            scales = tuple(row.scale() for _ in range(1 + step % 8))
            far = row.fraction(40)
            level = level_of(scales, far)
            gaps = sum(Fraction(*told(turned(scale), level)) for scale in scales)
            self.assertEqual(gaps + Fraction(*far), 0)
            self.assertEqual(level_of(scales=listed(scales), far=list(far)), level)
        self.assertEqual(level_of((PLAIN,), (0, 1)), (0, 1))
        self.assertEqual(level_of((PLAIN, PLAIN, PLAIN), (2, 1)), (-2, 3))
        self.assertEqual(level_of((BENT,), (-100, 1)), (51, 1))

    def test_together(self):
        row = Row(12)
        for step in range(80):
            scales = tuple(row.scale() for _ in range(1 + step % 8))
            one = together(scales)
            self.assertTrue(is_scale(one))
            self.assertEqual(trimmed(one), one)
            self.assertEqual(together(scales=listed(scales)), one)
            eases = [Fraction(*ease) for scale in scales for _, ease in scale]
            self.assertEqual((one[0][1], one[-1][1]), (pair(min(eases)), pair(max(eases))))
            self.assertLessEqual({ease for _, ease in one}, {ease for scale in scales for _, ease in scale})
            for ease in [pair(own) for own in eases] + [row.fraction(30) for _ in range(5)]:
                gap = sum(Fraction(*told(turned(scale), ease)) for scale in scales)
                self.assertEqual(told(one, pair(gap)), ease)
        self.assertEqual(together((BENT,)), BENT)
        self.assertEqual(together((BENT, PLAIN)), (((0, 1), (0, 1)), ((4, 1), (2, 1)), ((7, 1), (3, 1))))

    def test_bounds_of_numbers(self):
        great = (((-10 ** 30, 1), (0, 1)), ((10 ** 30, 1), (1, 10 ** 30)))
        self.assertEqual(ease_at(great, (0, 1)), (1, 2 * 10 ** 30))
        self.assertEqual(gap_at(great, (1, 2 * 10 ** 30)), (0, 1))

    def test_arguments_stay(self):
        scale, scales = listed(STEPS), listed((PLAIN, BENT))
        ease_at(scale, [1, 1]), gap_at(scale, [1, 1]), shifted(scale, [1, 2]), rate_at(scale, [0, 1])
        are_alike(scale, scale), trimmed(scale), level_of(scales, [1, 2]), together(scales)
        self.assertEqual((scale, scales), (listed(STEPS), listed((PLAIN, BENT))))

    def test_only_tuples_come_back(self):
        scales = listed((PLAIN, BENT))
        for scale in (shifted(scales[1], [1, 1]), trimmed(scales[1]), together(scales), together(scales[:1])):
            self.assertTrue(is_scale(scale))


if __name__ == "__main__":
    unittest.main()
