"""FRACTIONS: pairs (top, bottom) of numbers, in lowest terms, bottom at least 1."""

from math import gcd, lcm

from likecuts.errors import BadLine, Unfit

ZERO = (0, 1)
FIGURES = "0123456789"
MOST_FIGURES = 12


def is_number(thing):
    """Whether thing is an int that is not a bool."""
    return isinstance(thing, int) and not isinstance(thing, bool)


def is_fraction(thing):
    """Whether thing is a FRACTION."""
    if not isinstance(thing, tuple) or len(thing) != 2:
        return False
    top, bottom = thing
    return is_number(top) and is_number(bottom) and bottom >= 1 and gcd(top, bottom) == 1


def fraction(top, bottom):
    """The FRACTION top / bottom."""
    if bottom == 0:
        raise Unfit()
    shared = gcd(top, bottom)
    if bottom < 0:
        shared = -shared
    return (top // shared, bottom // shared)


def whole(number):
    """The FRACTION number / 1."""
    return (number, 1)


def plus(x, y):
    """x + y."""
    (top, bottom), (more, parts) = x, y
    return fraction(top * parts + more * bottom, bottom * parts)


def minus(x, y):
    """x - y."""
    (top, bottom), (less, parts) = x, y
    return fraction(top * parts - less * bottom, bottom * parts)


def times(x, y):
    """x times y."""
    (top, bottom), (often, parts) = x, y
    return fraction(top * often, bottom * parts)


def over(x, y):
    """x / y; Unfit() if y is 0."""
    (top, bottom), (often, parts) = x, y
    return fraction(top * parts, bottom * often)


def order(x, y):
    """1 if x is greater than y, -1 if it is less, 0 if they are equal."""
    (top, bottom), (other, parts) = x, y
    mine, yours = top * parts, other * bottom
    return (mine > yours) - (mine < yours)


def least(some):
    """The least of some."""
    best = some[0]
    for own in some:
        if order(own, best) < 0:
            best = own
    return tuple(best)


def greatest(some):
    """The greatest of some."""
    best = some[0]
    for own in some:
        if order(own, best) > 0:
            best = own
    return tuple(best)


def total(some):
    """The sum of some."""
    so_far = ZERO
    for own in some:
        so_far = plus(so_far, own)
    return so_far


def floor_of(x):
    """The greatest number that is at most x."""
    top, bottom = x
    return top // bottom


def in_units(some):
    """The pair of the least bottom that all of some can have, and the list of their tops with it."""
    unit = 1
    for own in some:
        unit = lcm(unit, own[1])
    return unit, [top * (unit // bottom) for top, bottom in some]


def put_in_order(some):
    """The list of some from the least to the greatest."""
    unit, tops = in_units(some)
    return [fraction(top, unit) for top in sorted(tops)]


def ascending(some):
    """The list of some from the least to the greatest, each just once."""
    unit, tops = in_units(some)
    return [fraction(top, unit) for top in sorted(set(tops))]


def fraction_text(x):
    """The text of x: its top and, unless bottom is 1, / and bottom."""
    top, bottom = x
    return str(top) if bottom == 1 else f"{top}/{bottom}"


def are_figures(text):
    """Whether text is at least one figure, and no more than a FRACTION by text may have."""
    return 1 <= len(text) <= MOST_FIGURES and all(sign in FIGURES for sign in text)


def fraction_by(text):
    """The FRACTION with this text; BadLine(1) if there is none."""
    top, slash, bottom = text.partition("/")
    if not are_figures(top.removeprefix("-")) or (slash and not are_figures(bottom)):
        raise BadLine(1)
    told = (int(top), int(bottom) if slash else 1)
    # A text is that of a FRACTION only if it is written just as the FRACTION itself would be.
    if not is_fraction(told) or fraction_text(told) != text:
        raise BadLine(1)
    return told
