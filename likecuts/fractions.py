"""FRACTIONS: pairs (top, bottom) of numbers, in lowest terms, bottom at least 1."""

from math import gcd, lcm

from likecuts.errors import BadLine, Unfit

ZERO = (0, 1)
FIGURES = "0123456789"
MOST_FIGURES = 12


def is_number(thing):
    """Whether thing is an int that is not a bool."""
    return isinstance(thing, int) and not isinstance(thing, bool)


def is_fraction(thing):
    """Whether thing is a FRACTION."""
    if not isinstance(thing, tuple) or len(thing) != 2:
        return False
    top, bottom = thing
    return is_number(top) and is_number(bottom) and bottom >= 1 and gcd(top, bottom) == 1


def fraction(top, bottom):
    """The FRACTION top / bottom."""
    if bottom == 0:
        raise Unfit()
    shared = gcd(top, bottom)
    if bottom < 0:
        shared = -shared
    return (top // shared, bottom // shared)


def whole(number):
    """The FRACTION number / 1."""
    return (number, 1)


def plus(x, y):
    """x + y."""
    (top, bottom), (more, parts) = x, y
    return fraction(top * parts + more * bottom, bottom * parts)


def minus(x, y):
    """x - y."""
    (top, bottom), (less, parts) = x, y
    return fraction(top * parts - less * bottom, bottom * parts)


def times(x, y):
    """x times y."""
    (top, bottom), (often, parts) = x, y
    return fraction(top * often, bottom * parts)


def over(x, y):
    """x / y; Unfit() if y is 0."""
    (top, bottom), (often, parts) = x, y
    return fraction(top * parts, bottom * often)


def order(x, y):
    """1 if x is greater than y, -1 if it is less, 0 if they are equal."""
    (top, bottom), (other, parts) = x, y
    mine, yours = top * parts, other * bottom
    return (mine > yours) - (mine < yours)


def least(some):
    """The least of some."""
    best = some[0]
    for own in some:
        if order(own, best) < 0:
            best = own
    return tuple(best)


def greatest(some):
    """The greatest of some."""
    best = some[0]
    for own in some:
        if order(own, best) > 0:
            best = own
    return tuple(best)


def total(some):
    """The sum of some."""
    so_far = ZERO
    for own in some:
        so_far = plus(so_far, own)
    return so_far


def floor_of(x):
    """The greatest number that is at most x."""
    top, bottom = x
    return top // bottom


def in_units(some):
    """The pair of the least bottom that all of some can have, and the list of their tops with it."""
    unit = 1
    for own in some:
        unit = lcm(unit, own[1])
    return unit, [top * (unit // bottom) for top, bottom in some]


def put_in_order(some):
    """The list of some from the least to the greatest."""
    unit, tops = in_units(some)
    return [fraction(top, unit) for top in sorted(tops)]


def ascending(some):
    """The list of some from the least to the greatest, each just once."""
    unit, tops = in_units(some)
    return [fraction(top, unit) for top in sorted(set(tops))]


def fraction_text(x):
    """The text of x: its top and, unless bottom is 1, / and bottom."""
    top, bottom = x
    return str(top) if bottom == 1 else f"{top}/{bottom}"


def are_figures(text):
    """Whether text is one figure or more."""
    return text != "" and all(sign in FIGURES for sign in text)


def has_more_figures(text, most):
    """Whether text has more signs than so many; never if most is None."""
    return most is not None and len(text) > most


def number_told(text, most=None):
    """The number, from 0, with this text, of at most so many figures unless most is None; None if there is none."""
    if not are_figures(text) or has_more_figures(text, most):
        return None
    number = int(text)
    # A text is that of a number only if it is written just as the number itself would be.
    return number if str(number) == text else None


def fraction_told(text, most=None):
    """The FRACTION with this text, of at most so many figures in top and in bottom unless most is None; None if there
    is none."""
    top, slash, bottom = text.partition("/")
    ahead, behind = number_told(top.removeprefix("-"), most), number_told(bottom if slash else "1", most)
    if ahead is None or behind is None:
        return None
    told = (-ahead if top.startswith("-") else ahead, behind)
    return told if is_fraction(told) and fraction_text(told) == text else None


def fraction_by(text):
    """The FRACTION with this text; BadLine(1) if there is none."""
    told = fraction_told(text, MOST_FIGURES)
    if told is None:
        raise BadLine(1)
    return told
