"""What the tests draw from a fixed row of numbers: the same on each Python, each time."""

from fractions import Fraction

# Values of all kinds that a `thing` may be, and that are neither FRACTION, SCALE, SHEET, LAYOUT, RING nor TOWER.
DEEP = ()
for _ in range(100):
    DEEP = (DEEP,)
DEEP_LIST = []
for _ in range(99):
    DEEP_LIST = [DEEP_LIST]
ODD_THINGS = (
    None, True, False, 0, 1, -1, 10 ** 40, "", "hard", "ease", "0/1", [], [0, 1], (0,), (0, 1, 2), (None, None),
    (True, True), (False, 1), (0, True), ("0", "1"), ("hard", 0), ("ease", 0), ("hard", "0"), (("hard", True),),
    (("hard", None),), ("hard", ("hard",)), ((),), ([],), [()], (((),),), ((("hard", 0),),), [["hard", 0]],
    (["hard", 0],), DEEP, DEEP_LIST, ("x" * 1000,) * 50, tuple(range(500)), ((0, 1),) * 300 + (None,),
    (("hard", 10 ** 30),), (("ease", -1),), (("hard", -1), ("hard", 0)), (1, 2, 3, 4, 5, 6, 7), ((0, 0),), ((1, -1),),
)


class Row:
    """A row of numbers that only its seed tells."""

    def __init__(self, seed):
        self.state = seed * 2654435761 % 2 ** 64 + 1

    def below(self, many):
        """The next number from 0 to many - 1."""
        self.state = (self.state * 6364136223846793005 + 1442695040888963407) % 2 ** 64
        return (self.state >> 33) % many

    def between(self, low, high):
        """The next number from low to high."""
        return low + self.below(high - low + 1)

    def one_of(self, some):
        """The next one of some."""
        return some[self.below(len(some))]

    def fraction(self, most=12, bottoms=(1, 1, 1, 2, 3)):
        """The next FRACTION: a top up to most over one of the bottoms."""
        return pair(Fraction(self.between(-most, most), self.one_of(bottoms)))

    def scale(self, corners=None):
        """The next SCALE, of two to four corners unless told."""
        gap, ease = Fraction(*self.fraction(6)), Fraction(*self.fraction(6))
        rows = []
        for _ in range(corners or self.between(2, 4)):
            rows.append((pair(gap), pair(ease)))
            gap += Fraction(self.between(1, 6), self.one_of((1, 2, 3)))
            ease += Fraction(self.between(1, 6), self.one_of((1, 2, 3)))
        return tuple(rows)


def pair(number):
    """A Fraction as a FRACTION."""
    return (number.numerator, number.denominator)


def listed(value):
    """The same value with a list for each tuple, at any depth."""
    return [listed(own) for own in value] if isinstance(value, (tuple, list)) else value
