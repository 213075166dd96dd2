"""PLANS: what is said of boxes on a page, made to SHEETS of their EDGES."""

from likecuts.errors import NoPlace
from likecuts.fractions import ZERO, is_fraction, is_number, minus
from likecuts.layouts import eases
from likecuts.scales import is_scale
from likecuts.sheets import is_thing_of, tupled
from likecuts.towers import fairest, laid_out

SIDES = ("front", "back")
# What stands behind the word of each SAYING.
SHAPES = {
    "least": ("edge", "edge", "far"),
    "just": ("edge", "edge", "far"),
    "room": ("edge", "edge", "scale"),
    "wide": ("row", "scale"),
    "row": ("row", "scale"),
    "pile": ("side", "row"),
    "inside": ("box", "box", "scale"),
}


def is_side(thing):
    """Whether thing is the word of a side."""
    return isinstance(thing, str) and thing in SIDES


def is_edge(boxes, thing):
    """Whether thing is an EDGE of one of so many boxes."""
    return isinstance(thing, tuple) and len(thing) == 2 and is_side(thing[0]) and is_thing_of(boxes, thing[1])


def is_row(boxes, thing):
    """Whether thing is a tuple, not (), of unlike ones of so many boxes."""
    if not isinstance(thing, tuple) or not thing or not all(is_thing_of(boxes, own) for own in thing):
        return False
    return len(set(thing)) == len(thing)


def is_told(boxes, kind, thing):
    """Whether thing is a part of this kind of a SAYING of so many boxes."""
    if kind == "edge":
        return is_edge(boxes, thing)
    if kind == "row":
        return is_row(boxes, thing)
    if kind == "box":
        return is_thing_of(boxes, thing)
    if kind == "side":
        return is_side(thing)
    return is_fraction(thing) if kind == "far" else is_scale(thing)


def is_saying(boxes, thing):
    """Whether thing is a SAYING of so many boxes."""
    if not isinstance(thing, tuple) or not thing or not isinstance(thing[0], str) or thing[0] not in SHAPES:
        return False
    kinds, told = SHAPES[thing[0]], thing[1:]
    if len(told) != len(kinds) or not all(is_told(boxes, kind, own) for kind, own in zip(kinds, told)):
        return False
    # Two EDGES of one SAYING are unlike, and so are two boxes; parts of unlike kinds are so anyway.
    return told[0] != told[1]


def is_plan(thing):
    """Whether thing is a PLAN."""
    if not isinstance(thing, tuple) or len(thing) != 2:
        return False
    boxes, sayings = thing
    if not is_number(boxes) or boxes < 1 or not isinstance(sayings, tuple):
        return False
    return all(is_saying(boxes, own) for own in sayings)


def thing_of(edge):
    """The THING that an EDGE is."""
    side, box = edge
    return 2 * box + SIDES.index(side)


def edge_of(number):
    """The EDGE that THING number is."""
    return SIDES[number % 2], number // 2


def just_rules(i, j, far):
    """The hard RULES by which j lies just far behind i."""
    return [(i, j, far), (j, i, minus(ZERO, far))]


def hard_said(saying):
    """The list of the hard RULES that a SAYING makes."""
    word = saying[0]
    if word == "least":
        return [(thing_of(saying[1]), thing_of(saying[2]), saying[3])]
    if word == "just":
        return just_rules(thing_of(saying[1]), thing_of(saying[2]), saying[3])
    rules = []
    if word == "pile":
        things = [thing_of((saying[1], box)) for box in saying[2]]
        for own in things[1:]:
            rules.extend(just_rules(things[0], own, ZERO))
    return rules


def edges_said(saying):
    """The list of the pairs of EDGES between which a SAYING gives room."""
    word, first, second = saying[:3]
    if word == "room":
        return [(first, second)]
    if word == "wide":
        return [(("front", box), ("back", box)) for box in first]
    if word == "row":
        return [(("back", box), ("front", after)) for box, after in zip(first, first[1:])]
    if word == "inside":
        return [(("front", second), ("front", first)), (("back", first), ("back", second))]
    return []


def counted_said(saying):
    """The list of the counted RULES that a SAYING makes."""
    return [(thing_of(edge), thing_of(other), saying[-1]) for edge, other in edges_said(saying)]


def sheet_of(plan):
    """The SHEET of a PLAN."""
    boxes, sayings = tupled(plan)
    hard = [rule for saying in sayings for rule in hard_said(saying)]
    counted = [rule for saying in sayings for rule in counted_said(saying)]
    return 2 * boxes, tuple(hard), tuple(counted)


def marks_said(plan):
    """The list of the tuples of the marks of the RULES that each SAYING makes, in order."""
    found, hard, counted = [], 0, 0
    for saying in plan[1]:
        more, others = len(hard_said(saying)), len(counted_said(saying))
        marks = [("hard", hard + k) for k in range(more)] + [("ease", counted + k) for k in range(others)]
        found.append(tuple(marks))
        hard, counted = hard + more, counted + others
    return found


def marks_by(plan, number):
    """The tuple of the marks of the RULES that the SAYING of this number makes; NoPlace(number) if there is none."""
    rows = marks_said(plan)
    if not is_thing_of(len(rows), number):
        raise NoPlace(number)
    return rows[number]


def saying_of(plan, mark):
    """The number of the SAYING that makes the RULE with this mark; NoPlace with the number of the mark if none does."""
    mark = tupled(mark)
    for number, marks in enumerate(marks_said(plan)):
        if mark in marks:
            return number
    raise NoPlace(mark[1])


def boxes_of(layout):
    """The BOXES of a LAYOUT."""
    places = tupled(layout)
    return tuple(zip(places[::2], places[1::2]))


def laid(plan):
    """The BOXES of the fairest LAYOUT of the SHEET of a PLAN."""
    return boxes_of(fairest(sheet_of(plan)))


def eases_of(plan):
    """The tuple with, for each SAYING, the tuple of the eases of its counted RULES in the fairest LAYOUT."""
    sheet, layout = laid_out(sheet_of(plan))
    told = eases(sheet, layout)
    return tuple([tuple([told[k] for word, k in marks if word == "ease"]) for marks in marks_said(plan)])


def other_side(side):
    """The word of the other side."""
    return SIDES[1 - SIDES.index(side)]


def turn_of(edge):
    """The turn of an EDGE."""
    side, box = edge
    return other_side(side), box


def turned_saying(saying):
    """The SAYING read from the other end."""
    word, first = saying[:2]
    if SHAPES[word][0] == "edge":
        return word, turn_of(saying[2]), turn_of(first), saying[3]
    if word == "pile":
        return word, other_side(first), saying[2]
    return (word, first[::-1], saying[2]) if word == "row" else saying


def turned(plan):
    """The PLAN read from the other end."""
    boxes, sayings = tupled(plan)
    return boxes, tuple([turned_saying(saying) for saying in sayings])
