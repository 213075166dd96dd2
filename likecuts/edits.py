"""EDITS: a RULE told by more, left out, put in; and how THINGS move by it."""

from likecuts.errors import NoPlace
from likecuts.fractions import ZERO, ascending, greatest, is_fraction, least, minus, plus, total
from likecuts.nets import farthest
from likecuts.scales import is_scale, shifted
from likecuts.sheets import WORDS, hard_net, is_mark, is_rule, is_thing_of, known_mark, must_have_room, tupled
from likecuts.towers import fairest


def is_free_mark(sheet, thing):
    """Whether thing is the mark of a place at which a RULE can be put in."""
    if not isinstance(thing, tuple) or len(thing) != 2 or thing[0] not in WORDS:
        return False
    return is_thing_of(len(sheet[1 + WORDS.index(thing[0])]) + 1, thing[1])


def is_rule_of(sheet, word, thing):
    """Whether thing is a RULE of this word of two THINGS of sheet."""
    return is_rule(sheet[0], thing) and (is_fraction(thing[2]) if word == "hard" else is_scale(thing[2]))


def is_edit(sheet, thing):
    """Whether thing is an EDIT of sheet."""
    if not isinstance(thing, tuple) or not 2 <= len(thing) <= 3:
        return False
    word, mark = thing[:2]
    if len(thing) == 2:
        return word == "out" and is_mark(sheet, mark)
    if word == "more":
        return is_mark(sheet, mark) and is_fraction(thing[2])
    return word == "in" and is_free_mark(sheet, mark) and is_rule_of(sheet, mark[0], thing[2])


def told_more(rule, word, far):
    """The RULE of this word told by far more."""
    i, j, told = rule
    return (i, j, plus(told, far) if word == "hard" else shifted(told, far))


def behind(sheet, edit):
    """The SHEET behind an EDIT, both made of tuples."""
    deed, (word, k) = edit[:2]
    side = 1 + WORDS.index(word)
    rules = list(sheet[side])
    if deed == "more":
        rules[k] = told_more(rules[k], word, edit[2])
    elif deed == "out":
        del rules[k]
    else:
        rules.insert(k, edit[2])
    return (sheet[0], tuple(rules), sheet[2]) if side == 1 else (sheet[0], sheet[1], tuple(rules))


def known_edit(sheet, edit):
    """The EDIT, made of tuples; NoPlace(mark) if there is no such RULE, no such place."""
    edit = tupled(edit)
    if not (is_free_mark(sheet, edit[1]) if edit[0] == "in" else is_mark(sheet, edit[1])):
        raise NoPlace(edit[1])
    return edit


def edited(sheet, edit):
    """The SHEET behind an EDIT."""
    return behind(tupled(sheet), known_edit(sheet, edit))


def edited_by(sheet, edits):
    """The SHEET behind all EDITS, one by one."""
    sheet = tupled(sheet)
    for edit in edits:
        sheet = edited(sheet, edit)
    return sheet


def undoing(sheet, edit):
    """The EDIT of the SHEET behind an EDIT, with the same mark, that leads back to sheet."""
    edit = known_edit(sheet, edit)
    deed, mark = edit[:2]
    if deed == "more":
        return ("more", mark, minus(ZERO, edit[2]))
    if deed == "in":
        return ("out", mark)
    return ("in", mark, tupled(sheet[1 + WORDS.index(mark[0])][mark[1]]))


def moves(sheet, edit):
    """The tuple of how much the THINGS move."""
    after = edited(sheet, edit)
    ahead = fairest(sheet)
    return tuple([minus(place, own) for place, own in zip(fairest(after), ahead)])


def movers(sheet, edit):
    """The tuple of the pairs (by, lot) of those THINGS that move by so much more than those that move least."""
    told = moves(sheet, edit)
    low = least(told)
    return tuple([(minus(by, low), tuple([thing for thing, own in enumerate(told) if own == by]))
                  for by in ascending(told)])


def spread(sheet, edit):
    """By how much more the THING that moves most moves than the one that moves least."""
    told = moves(sheet, edit)
    return minus(greatest(told), least(told))


def moves_nothing(sheet, edit):
    """Whether no two THINGS move against one another."""
    return spread(sheet, edit) == ZERO


def most_more(sheet, mark):
    """The greatest FRACTION by which the RULE with this mark can be told more without a RING without room; None if it
    can by whatever one."""
    word, k = known_mark(sheet, mark)
    must_have_room(sheet)
    if word == "ease":
        return None
    i, j, far = sheet[1][k]
    # The RINGS that have this RULE go back from its j to its i, by whatever else.
    back = farthest(hard_net(sheet), ZERO, j).get(i)
    return None if back is None else minus(ZERO, total((far, back)))
