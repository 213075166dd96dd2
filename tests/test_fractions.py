"""[2], [3], [4]: FRACTIONS."""

import unittest
from fractions import Fraction

from drawn import DEEP, ODD_THINGS, Row, listed, pair

from likecuts.errors import BadLine, Unfit
from likecuts.fractions import (floor_of, fraction, fraction_by, fraction_text, greatest, is_fraction, least, minus,
                                order, over, plus, times, total, whole)

GREAT = 10 ** 30


def drawn_pairs():
    """FRACTIONS small and great, two and two."""
    row = Row(4)
    for step in range(400):
        most, bottoms = ((5, (1, 2, 3)), (1000, tuple(range(1, 13))), (GREAT, (1, 7, GREAT, GREAT - 1)))[step % 3]
        yield row.fraction(most, bottoms), row.fraction(most, bottoms)


class IsFraction(unittest.TestCase):
    def test_fractions(self):
        for thing in ((0, 1), (1, 1), (-1, 1), (1, 2), (-7, 3), (GREAT, GREAT - 1), (10 ** 400, 1)):
            self.assertIs(is_fraction(thing), True, thing)

    def test_others(self):
        others = ((0, 2), (2, 4), (1, 0), (0, 0), (1, -1), (0, -1), (-3, 6), (True, 1), (1, True), (False, 1), [0, 1],
                  (1, 2, 3), (1,), (), "01", ("0", "1"), (None, 1), ((0, 1), 1), (0, (1,)), ([0], 1), DEEP, None, 1)
        for thing in others:
            self.assertIs(is_fraction(thing), False, repr(thing)[:50])

    def test_odd_things(self):
        for thing in ODD_THINGS:
            self.assertIs(is_fraction(thing), False, repr(thing)[:50])

    def test_by_name(self):
        self.assertIs(is_fraction(thing=(1, 2)), True)


class Reckoning(unittest.TestCase):
    def test_fraction(self):
        self.assertEqual(fraction(0, -5), (0, 1))
        self.assertEqual(fraction(-6, -4), (3, 2))
        self.assertEqual(fraction(top=4, bottom=-2), (-2, 1))
        self.assertEqual(fraction(GREAT, -GREAT), (-1, 1))
        for top in (0, 1, -3, GREAT):
            with self.assertRaises(Unfit) as caught:
                fraction(top, 0)
            self.assertEqual(vars(caught.exception), {})

    def test_fraction_against_quotients(self):
        for top in range(-12, 13):
            for bottom in range(-12, 13):
                if bottom:
                    told = fraction(top, bottom)
                    self.assertEqual(told, pair(Fraction(top, bottom)))
                    self.assertTrue(is_fraction(told))

    def test_whole(self):
        self.assertEqual([whole(0), whole(-7), whole(number=GREAT)], [(0, 1), (-7, 1), (GREAT, 1)])

    def test_against_quotients(self):
        for x, y in drawn_pairs():
            one, other = Fraction(*x), Fraction(*y)
            self.assertEqual(plus(x, y), pair(one + other))
            self.assertEqual(minus(x, y), pair(one - other))
            self.assertEqual(times(x, y), pair(one * other))
            if other:
                self.assertEqual(over(x, y), pair(one / other))
            self.assertEqual(order(x, y), (one > other) - (one < other))
            self.assertEqual(order(x, x), 0)
            self.assertEqual(floor_of(x), one.numerator // one.denominator)
            for told in (plus(x, y), minus(x, y), times(x, y)):
                self.assertTrue(is_fraction(told))

    def test_order_is_a_number(self):
        for answer in (order((1, 2), (1, 3)), order((1, 3), (1, 2)), order((1, 2), (1, 2))):
            self.assertIs(answer.__class__, int)

    def test_over_by_nothing(self):
        for x in ((0, 1), (1, 2), [3, 1]):
            with self.assertRaises(Unfit):
                over(x, (0, 1))
        self.assertEqual(over(x=(0, 1), y=(-2, 3)), (0, 1))
        self.assertEqual(over((1, 2), (-1, 3)), (-3, 2))

    def test_of_some(self):
        row = Row(5)
        for many in list(range(1, 12)) + [40]:
            some = tuple(row.fraction(9, (1, 2, 3, 7)) for _ in range(many))
            told = [Fraction(*own) for own in some]
            self.assertEqual(least(some), pair(min(told)))
            self.assertEqual(greatest(some), pair(max(told)))
            self.assertEqual(total(some), pair(sum(told)))
            self.assertEqual((least(listed(some)), greatest(listed(some)), total(listed(some))),
                             (least(some), greatest(some), total(some)))
        self.assertEqual(total(()), (0, 1))
        self.assertEqual(total(some=[]), (0, 1))
        # As quotients, not as tuples: (1, 3) is less than (1, 2), and (-1, 2) less than (-1, 3).
        self.assertEqual((least(((1, 2), (1, 3))), greatest(((1, 3), (1, 2)))), ((1, 3), (1, 2)))
        self.assertEqual((least(((-1, 3), (-1, 2))), greatest(some=((-1, 2), (-1, 3)))), ((-1, 2), (-1, 3)))

    def test_floors(self):
        told = {(7, 2): 3, (-7, 2): -4, (-1, 12): -1, (1, 12): 0, (0, 1): 0, (-3, 1): -3, (GREAT, 3): GREAT // 3}
        for x, floor in told.items():
            self.assertEqual(floor_of(x), floor)
            self.assertEqual(floor_of(x=list(x)), floor)

    def test_lists_and_names(self):
        self.assertEqual(plus([1, 2], [1, 3]), (5, 6))
        self.assertEqual(minus(y=[1, 2], x=[1, 3]), (-1, 6))
        self.assertEqual(times(x=[2, 3], y=(3, 2)), (1, 1))
        self.assertEqual(order(y=[1, 2], x=[1, 3]), -1)
        self.assertEqual(plus(y=(1, 2), x=(1, 2)), (1, 1))
        for told in (least([[1, 2]]), greatest([[1, 2]]), total([[1, 2]])):
            self.assertIs(told.__class__, tuple)

    def test_arguments_stay(self):
        x, y, some = [3, 2], [-1, 2], [[1, 2], [1, 3], [0, 1]]
        for deed in (plus, minus, times, over, order):
            deed(x, y)
        for deed in (least, greatest, total):
            deed(some)
        floor_of(x), fraction_text(x)
        self.assertEqual((x, y, some), ([3, 2], [-1, 2], [[1, 2], [1, 3], [0, 1]]))


class Texts(unittest.TestCase):
    def test_texts(self):
        told = {(0, 1): "0", (3, 1): "3", (-7, 2): "-7/2", (10, 3): "10/3", (-1, 1): "-1", (GREAT, 1): str(GREAT),
                (1 - GREAT, GREAT): f"{1 - GREAT}/{GREAT}"}
        for x, text in told.items():
            self.assertEqual(fraction_text(x), text)
            self.assertEqual(fraction_text(x=list(x)), text)

    def test_there_and_back(self):
        for top in range(-30, 31):
            for bottom in range(1, 14):
                x = fraction(top, bottom)
                self.assertEqual(fraction_by(fraction_text(x)), x)
        self.assertEqual(fraction_by(text="-7/2"), (-7, 2))

    def test_twelve_figures(self):
        self.assertEqual(fraction_by("9" * 12), (10 ** 12 - 1, 1))
        self.assertEqual(fraction_by("-" + "9" * 12), (1 - 10 ** 12, 1))
        self.assertEqual(fraction_by("1/" + "9" * 12), (1, 10 ** 12 - 1))
        self.assertEqual(fraction_by("-" + "9" * 12 + "/1" + "0" * 11), (1 - 10 ** 12, 10 ** 11))
        for text in ("9" * 13, "-" + "9" * 13, "1/" + "9" * 13, "9" * 13 + "/2", "1" + "0" * 12, "9" * 5000):
            self.refused(text)

    def test_what_is_no_fraction(self):
        for text in ("", "-", "/", "-/", "2/4", "0/1", "0/5", "1/1", "-3/1", "00", "01", "-0", "-01", "1/02", "1/0",
                     "0/0", "1/-2", "-1/-2", "--1", "+1", "1/+2", "1/", "/2", "-/2", "1//2", "1/2/3", " 1", "1 ", "1\n",
                     "1 /2", "1/ 2", "1.5", "1_0", "a", "1a", "x/2", "\u0663", "\u00b2", "1/\u0663", "1e3", "0x1", "-00",
                     "- 1", "None", "1,2", "\uff11", "\u2212" + "1"):
            self.refused(text)

    def refused(self, text):
        with self.assertRaises(BadLine, msg=repr(text)) as caught:
            fraction_by(text)
        self.assertEqual(vars(caught.exception), {"line": 1})


if __name__ == "__main__":
    unittest.main()
