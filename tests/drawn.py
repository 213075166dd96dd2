"""What the tests draw from a fixed row of numbers: the same on each Python, each time."""

from fractions import Fraction

# Values of all kinds that a `thing` may be, and that are neither FRACTION, SCALE, SHEET, LAYOUT, RING nor TOWER.
DEEP = ()
for _ in range(100):
    DEEP = (DEEP,)
DEEP_LIST = []
for _ in range(99):
    DEEP_LIST = [DEEP_LIST]
ODD_THINGS = (
    None, True, False, (), 0, 1, -1, 10 ** 40, "", "hard", "ease", "0/1", [], [0, 1], (0,), (0, 1, 2), (None, None),
    (True, True), (False, 1), (0, True), ("0", "1"), ("hard", 0), ("ease", 0), ("hard", "0"), (("hard", True),),
    (("hard", None),), ("hard", ("hard",)), ((),), ([],), [()], (((),),), ((("hard", 0),),), [["hard", 0]],
    (["hard", 0],), DEEP, DEEP_LIST, ("x" * 1000,) * 50, tuple(range(500)), ((0, 1),) * 300 + (None,),
    (("hard", 10 ** 30),), (("ease", -1),), (("hard", -1), ("hard", 0)), (1, 2, 3, 4, 5, 6, 7), ((0, 0),), ((1, -1),),
    ("soft", 0), (("soft", 0),), (("ease", 0), ("", 0)), (("hard", 0, 0),), (((), 0),), (([], 0),), ((None, 0),),
)


class Row:
    """A row of numbers that only its seed tells."""

    def __init__(self, seed):
        self.state = seed * 2654435761 % 2 ** 64 + 1

    def below(self, many):
        """The next number from 0 to many - 1."""
        self.state = (self.state * 6364136223846793005 + 1442695040888963407) % 2 ** 64
        return (self.state >> 33) % many

    def between(self, low, high):
        """The next number from low to high."""
        return low + self.below(high - low + 1)

    def one_of(self, some):
        """The next one of some."""
        return some[self.below(len(some))]

    def fraction(self, most=12, bottoms=(1, 1, 1, 2, 3)):
        """The next FRACTION: a top up to most over one of the bottoms."""
        return pair(Fraction(self.between(-most, most), self.one_of(bottoms)))

    def scale(self, corners=None):
        """The next SCALE, of two to four corners unless told."""
        gap, ease = Fraction(*self.fraction(6)), Fraction(*self.fraction(6))
        rows = []
        for _ in range(corners or self.between(2, 4)):
            rows.append((pair(gap), pair(ease)))
            gap += Fraction(self.between(1, 6), self.one_of((1, 2, 3)))
            ease += Fraction(self.between(1, 6), self.one_of((1, 2, 3)))
        return tuple(rows)


def pair(number):
    """A Fraction as a FRACTION."""
    return (number.numerator, number.denominator)


def listed(value):
    """The same value with a list for each tuple, at any depth."""
    return [listed(own) for own in value] if isinstance(value, (tuple, list)) else value


def drawn_sheet(row, most=5, rules=7):
    """The next SHEET, maybe one that does not stand: RULES alike, there and back, fast RINGS, hard RULES of 0."""
    many = row.between(1, most)
    if many == 1:
        return (1, (), ())
    places = [Fraction(0)] + [Fraction(row.between(-6, 6), row.one_of((1, 1, 2))) for _ in range(many - 1)]
    hard, counted = [], []
    for _ in range(row.between(0, rules)):
        i = row.below(many)
        j = (i + 1 + row.below(many - 1)) % many
        gap = places[j] - places[i]
        kind = row.below(12)
        if kind < 3:
            # Kept by these places, often just kept.
            hard.append((i, j, pair(gap - row.one_of((0, 0, 1, Fraction(5, 2))))))
        elif kind == 3:
            hard += [(i, j, pair(gap)), (j, i, pair(-gap))]
        elif kind == 4:
            hard.append((i, j, row.one_of(((0, 1), (0, 1), row.fraction(8)))))
        elif kind == 5 and hard:
            hard.append(row.one_of(hard))
        elif kind == 6 and counted:
            counted.append(row.one_of(counted))
        elif kind == 7:
            counted += [(i, j, row.scale()), (j, i, row.scale())]
        else:
            counted.append((i, j, row.one_of((PLAIN, row.scale(), row.scale(2)))))
    return (many, tuple(hard), tuple(counted))


PLAIN = (((0, 1), (0, 1)), ((1, 1), (1, 1)))


def drawn_round_sheet(row, most=5, rules=8):
    """The next SHEET of two THINGS or more on one RING at least, in which no RING is without room; so most stand."""
    many = row.between(2, most)
    places = [Fraction(0)] + [Fraction(row.between(-6, 6), row.one_of((1, 1, 2))) for _ in range(many - 1)]
    left, around = list(range(many)), []
    while left:
        around.append(left.pop(row.below(len(left))))
    steps = list(zip(around, around[1:] + around[:1]))
    for _ in range(row.between(0, rules - many)):
        i = row.below(many)
        steps.append(row.one_of(steps) if row.below(5) == 0 else (i, (i + 1 + row.below(many - 1)) % many))
    hard, counted = [], []
    for i, j in steps:
        if row.below(5) < 2:
            less = row.one_of((0, 0, 0, 1, Fraction(5, 2), 7))
            hard.append((i, j, pair(places[j] - places[i] - less)))
            if row.below(6) == 0:
                hard.append((j, i, pair(places[i] - places[j])))
        else:
            counted.append((i, j, row.one_of((PLAIN, PLAIN, row.scale(), row.scale(2)))))
    return (many, tuple(hard), tuple(counted))


def drawn_round_sheets(seed, many, most=5, rules=8):
    """So many SHEETS, most of which stand."""
    row = Row(seed)
    return [drawn_round_sheet(row, most, rules) for _ in range(many)]


def drawn_sheets(seed, many, most=5, rules=7):
    """So many SHEETS."""
    row = Row(seed)
    return [drawn_sheet(row, most, rules) for _ in range(many)]


def drawn_places(row, many):
    """The next places for so many THINGS, as Python's own fractions."""
    return [Fraction(row.between(-9, 9), row.one_of((1, 1, 2, 3))) for _ in range(many)]


def stairs(many):
    """A SCALE of so many corners, its lines steep and flat in turn."""
    rows, gap, ease = [], 0, 0
    for at in range(many):
        rows.append(((gap, 1), (ease, 1)))
        gap, ease = gap + 1 + at % 2, ease + 2 - at % 2
    return tuple(rows)


def big_sheet(row):
    """The next SHEET of 8 THINGS and 20 RULES with SCALES of four corners, as great and as fine as the bounds allow."""
    around, left = [], list(range(8))
    while left:
        around.append(left.pop(row.below(len(left))))
    hard, counted = [(around[-1], around[0], (-1000, 1))], []
    for i, j in zip(around, around[1:]):
        counted.append((i, j, big_scale(row)))
    while len(hard) + len(counted) < 20:
        i = row.below(8)
        j = (i + 1 + row.below(7)) % 8
        if row.below(4) == 0:
            hard.append((i, j, pair(Fraction(row.between(-1000, 400), row.between(1, 12)))))
        else:
            counted.append((i, j, big_scale(row)))
    return (8, tuple(hard), tuple(counted))


def big_scale(row):
    """The next SCALE of four corners, far from one another."""
    return tuple((pair(Fraction(low + row.between(1, 400), 3)), pair(Fraction(low + row.between(1, 400), 12)))
                 for low in (-1000, -500, 0, 500))


def drawn_lot_sheet(row):
    """The next SHEET whose THINGS hang on two of them in two or three lots; most stand."""
    sizes = [row.between(1, 2) for _ in range(row.between(2, 3))][:3]
    while sum(sizes) > 4:
        sizes.pop()
    names = list(range(2 + sum(sizes)))
    names = [names.pop(row.below(len(names))) for _ in range(len(names))]
    places = {own: Fraction(row.between(-5, 5), row.one_of((1, 1, 2))) for own in names}
    a, b, left = names[0], names[1], names[2:]
    hard, counted = [(b, a, pair(places[a] - places[b] - row.below(3)))], []
    for size in sizes:
        lot, left = left[:size], left[size:]
        steps = list(zip([a] + lot, lot + [b]))
        for _ in range(row.below(3)):
            some = [a, b] + lot
            i = some.pop(row.below(len(some)))
            steps.append((i, row.one_of(some)))
        for i, j in steps:
            if row.below(4) == 0:
                hard.append((i, j, pair(places[j] - places[i] - row.one_of((0, 0, 1, 2)))))
            else:
                counted.append((i, j, row.one_of((PLAIN, row.scale(), row.scale(2)))))
    return (len(names), tuple(hard), tuple(counted))


def drawn_edge(row, boxes):
    """The next EDGE of one of so many boxes."""
    return (row.one_of(("front", "back")), row.below(boxes))


def drawn_saying(row, boxes):
    """The next SAYING of so many boxes."""
    some = ["least", "just", "room", "wide", "row", "pile"] + ["inside"] * (2 if boxes > 1 else 0)
    word = row.one_of(some)
    if word in ("least", "just", "room"):
        edge, other = drawn_edge(row, boxes), drawn_edge(row, boxes)
        while other == edge:
            other = drawn_edge(row, boxes)
        told = row.one_of((PLAIN, row.scale())) if word == "room" else row.fraction(6, (1, 1, 2))
        return (word, edge, other, told)
    if word == "inside":
        box = row.below(boxes)
        return (word, box, (box + 1 + row.below(boxes - 1)) % boxes, row.one_of((PLAIN, row.scale(2))))
    left, some = list(range(boxes)), []
    for _ in range(row.between(1, boxes)):
        some.append(left.pop(row.below(len(left))))
    if word == "pile":
        return (word, row.one_of(("front", "back")), tuple(some))
    return (word, tuple(some), row.one_of((PLAIN, row.scale(2))))


def drawn_plan(row, most=3):
    """The next PLAN of up to so many boxes, maybe one whose SHEET does not stand."""
    boxes = row.between(1, most)
    sayings = [drawn_saying(row, boxes) for _ in range(row.between(0, 4))]
    if row.below(5):
        # A page, and each box within it: so most stand.
        sayings.append(("just", ("front", 0), ("back", 0), (row.between(4, 12), 1)))
        for box in range(1, boxes):
            sayings.append(("inside", box, row.below(box), row.one_of((PLAIN, row.scale(2)))))
            if row.below(2):
                sayings.append(("least", ("front", box), ("back", box), (row.between(0, 2), 1)))
            else:
                sayings.append(("wide", (box,), PLAIN))
        left, sayings = sayings, []
        while left:
            sayings.append(left.pop(row.below(len(left))))
    return (boxes, tuple(sayings))


def drawn_plans(seed, many, most=3):
    """So many PLANS."""
    row = Row(seed)
    return [drawn_plan(row, most) for _ in range(many)]


def bent(row, value):
    """The same value, a tuple of numbers, strings, None and tuples of such, bent in one place."""
    if isinstance(value, (tuple, list)) and len(value) > 0 and row.below(5):
        at = row.below(len(value))
        return value[:at] + (bent(row, value[at]),) + value[at + 1:]
    kind = row.below(9)
    if isinstance(value, tuple) and kind < 5:
        some = list(value)
        if kind == 0 or not some:
            return some
        if kind == 1:
            some.pop(row.below(len(some)))
        elif kind == 2:
            some.insert(row.below(len(some) + 1), row.one_of(some))
        elif kind == 3:
            some.reverse()
        else:
            some = some[1:] + some[:1]
        return tuple(some)
    if isinstance(value, int) and kind < 6:
        return value + row.one_of((1, -1, 2, -3))
    if isinstance(value, str) and kind < 4:
        return row.one_of(("hard", "ease", "front", "back", "least", "just", "row", "wide"))
    return row.one_of((None, True, False, 0, 1, 2, "", "hard", (), (0, 1), (1, 2), [], [value], (value,), -1))
