"""One judge: CLAIMS of all kinds, and the PAPERS for them and against them, each looked at by itself."""

from likecuts.apart import alike_widths, first_apart, is_apart_width
from likecuts.cuts import is_complaint, is_unlike_cut, unlike_cut
from likecuts.errors import Unfit
from likecuts.fractions import ZERO, ascending, is_fraction, order, plus, times
from likecuts.idle import bypass, is_bypass, is_idle, is_slip, slip
from likecuts.layouts import eases, is_layout
from likecuts.levels import bar_to, eased, is_bar_to, is_eased
from likecuts.nets import climb, reached
from likecuts.parts import is_lot_with, is_part, is_part_bar, part_bar
from likecuts.reasons import are_reasons, reasons
from likecuts.sheets import (floating_lot, is_floating_lot, is_loose_lot, is_no_room, is_sheet, is_thing_of, loose_lot,
                             net_of, no_room, stands, tupled)
from likecuts.towers import fairest, is_tower, tower
from likecuts.widths import has_free, is_table, table

HALF = (1, 2)
TWICE = (2, 1)
ON = (1, 1)
BACK = (-1, 1)


def are_stands_parts(parts):
    """Whether parts are what stands behind the word of such a CLAIM: a SHEET."""
    return len(parts) == 1 and is_sheet(parts[0])


def are_fairest_parts(parts):
    """Whether parts are what stands behind the word of such a CLAIM: a SHEET that stands and a LAYOUT of it."""
    return len(parts) == 2 and is_sheet(parts[0]) and is_layout(parts[0], parts[1]) and stands(parts[0])


def are_eased_parts(parts):
    """Whether parts are what stands behind the word of such a CLAIM: a SHEET and a FRACTION."""
    return len(parts) == 2 and is_sheet(parts[0]) and is_fraction(parts[1])


def are_idle_parts(parts):
    """Whether parts are what stands behind the word of such a CLAIM: a SHEET and the number of a hard RULE of it."""
    return len(parts) == 2 and is_sheet_with(parts[0], parts[1]) and no_room(parts[0]) is None


def are_part_parts(parts):
    """Whether parts are what stands behind the word of such a CLAIM: a SHEET, two THINGS and a set with these."""
    if len(parts) != 4 or not is_sheet(parts[0]):
        return False
    (many, _, _), a, b, lot = parts
    return is_thing_of(many, a) and is_thing_of(many, b) and a != b and is_lot_with(many, a, b, lot)


def are_alike_parts(parts):
    """Whether parts are what stands behind the word of such a CLAIM: two SHEETS that are free, each of a hard RULE."""
    if len(parts) != 4 or not is_sheet_with(parts[0], parts[1]) or not is_sheet_with(parts[2], parts[3]):
        return False
    sheet, place, other, spot = parts
    return sheet[0] == other[0] and has_free(sheet, place) and has_free(other, spot)


def is_sheet_with(thing, k):
    """Whether thing is a SHEET and k the number of a hard RULE of it."""
    return is_sheet(thing) and is_thing_of(len(thing[1]), k)


KINDS = {
    "stands": are_stands_parts,
    "fairest": are_fairest_parts,
    "eased": are_eased_parts,
    "idle": are_idle_parts,
    "part": are_part_parts,
    "alike": are_alike_parts,
}


def is_claim(thing):
    """Whether thing is a CLAIM."""
    if not isinstance(thing, tuple) or not thing or not isinstance(thing[0], str) or thing[0] not in KINDS:
        return False
    are_parts = KINDS[thing[0]]
    return are_parts(thing[1:])


def fit_claim(claim):
    """The claim, made of tuples; Unfit() if it is none."""
    claim = tupled(claim)
    if not is_claim(claim):
        raise Unfit()
    return claim


def fit_claims(claims):
    """The list of the claims, made of tuples; Unfit() if one is none."""
    return [fit_claim(claim) for claim in claims]


def must_be_few(claims):
    """Raises TooMuch() if some "alike" is of a SHEET with too many lines."""
    for claim in claims:
        if claim[0] == "alike":
            is_true(claim)


def is_true(claim):
    """Whether a claim is so."""
    word, *parts = claim
    if word == "stands":
        return stands(parts[0])
    if word == "fairest":
        return fairest(parts[0]) == parts[1]
    if word == "eased":
        return climb(net_of(parts[0]), parts[1])[1] is None
    if word == "idle":
        return is_idle(*parts)
    return is_part(*parts) if word == "part" else alike_widths(*parts)


def is_so(claim):
    """Whether a claim is so; Unfit() if it is none."""
    return is_true(fit_claim(claim))


def cut_at(rows, widths):
    """The tuple of the STRETCHES of a TABLE, each cut in two at each of these widths, ascending, within it."""
    found = []
    for first, last, lines, rings in rows:
        for width in widths:
            if (first is None or order(width, first) > 0) and (last is None or order(width, last) < 0):
                found.append((first, width, lines, rings))
                first = width
        found.append((first, last, lines, rings))
    return tuple(found)


def both_tables(sheet, place, other, spot):
    """The pair of a TABLE of each of two SHEETS that are laid alike at all widths, with the same firsts and lasts."""
    one, two = table(sheet, place), table(other, spot)
    # The first one begins at the least width, or has no beginning.
    widths = ascending([own[0] for own in one[1:] + two[1:]])
    return cut_at(one, widths), cut_at(two, widths)


def apart_width(sheet, place, other, spot):
    """A width that is apart, of two SHEETS that are not laid alike at all widths."""
    start, _ = first_apart(sheet, place, other, spot)
    if start is None:
        # From some width back all are apart but single ones.
        start, step, by = ZERO, BACK, TWICE
    else:
        # All are just behind this one.
        step, by = ON, HALF
    while not is_apart_width(sheet, place, other, spot, plus(start, step)):
        step = times(step, by)
    return plus(start, step)


def paper_for(claim):
    """A PAPER for a claim that is so."""
    word, *parts = claim
    if word == "stands":
        return tower(parts[0])
    if word == "fairest":
        return reasons(parts[0])
    if word == "eased":
        return eased(*parts)
    if word == "idle":
        return bypass(*parts)
    return () if word == "part" else both_tables(*parts)


def fallen(sheet):
    """A RING without room, or a CUT that some counted RULE enters and no RULE leaves, or the set of the THINGS that do
    not hang together with 0, of a SHEET that does not stand."""
    ring, lot = no_room(sheet), loose_lot(sheet)
    if ring is not None:
        return ring
    return floating_lot(sheet) if lot is None else lot


def paper_against(claim):
    """A PAPER against a claim that is not so."""
    word, *parts = claim
    if word == "stands":
        return fallen(parts[0])
    if word == "fairest":
        return unlike_cut(*parts)
    if word == "eased":
        return bar_to(*parts)
    if word == "idle":
        return slip(*parts)
    return part_bar(*parts) if word == "part" else apart_width(*parts)


def paper(claim):
    """A PAPER for a claim if it is so, otherwise one against it; Unfit() if it is none."""
    claim = fit_claim(claim)
    return paper_for(claim) if is_true(claim) else paper_against(claim)


def are_both_tables(sheet, place, other, spot, thing):
    """Whether thing is a pair of a TABLE of each of both SHEETS, with the same firsts, lasts and lines."""
    if not isinstance(thing, tuple) or len(thing) != 2:
        return False
    one, two = thing
    if not is_table(sheet, place, one) or not is_table(other, spot, two):
        return False
    return [own[:3] for own in one] == [own[:3] for own in two]


def is_for(claim, thing):
    """Whether thing is a PAPER for a claim."""
    word, *parts = claim
    if word == "stands":
        return stands(parts[0]) and is_tower(parts[0], thing)
    if word == "fairest":
        return are_reasons(*parts, thing)
    if word == "eased":
        return is_eased(*parts, thing)
    if word == "idle":
        return is_bypass(*parts, thing)
    if word == "part":
        return thing == () and is_part(*parts)
    return are_both_tables(*parts, thing)


def is_fall(sheet, thing):
    """Whether thing tells that sheet does not stand."""
    if is_no_room(sheet, thing) or is_loose_lot(sheet, thing):
        return True
    return no_room(sheet) is None and is_floating_lot(sheet, thing)


def is_against(claim, thing):
    """Whether thing is a PAPER against a claim."""
    word, *parts = claim
    if word == "stands":
        return is_fall(parts[0], thing)
    if word == "fairest":
        return is_unlike_cut(*parts, thing) or is_complaint(*parts, thing)
    if word == "eased":
        return is_bar_to(*parts, thing)
    if word == "idle":
        return is_slip(*parts, thing)
    return is_part_bar(*parts, thing) if word == "part" else is_apart_width(*parts, thing)


def is_paper_for(claim, thing):
    """Whether thing is a PAPER for a claim; Unfit() if this is none."""
    claim = fit_claim(claim)
    must_be_few([claim])
    return is_for(claim, thing)


def is_paper_against(claim, thing):
    """Whether thing is a PAPER against a claim; Unfit() if this is none."""
    claim = fit_claim(claim)
    must_be_few([claim])
    return is_against(claim, thing)


def verdict(claim, thing):
    """What thing is for a claim: "for", "against" or "none"."""
    if is_for(claim, thing):
        return "for"
    return "against" if is_against(claim, thing) else "none"


def verdicts(claims, things):
    """The list of what each of things is for the claim at its place; Unfit() if they are not equally many."""
    claims = fit_claims(claims)
    if len(claims) != len(things):
        raise Unfit()
    must_be_few(claims)
    return [verdict(claim, thing) for claim, thing in zip(claims, things)]


def comes_of_eased(sheet, ease, claims):
    """Whether it comes of claims, itself not one of them, that some LAYOUT is eased so much."""
    for word, *parts in claims:
        if word == "eased" and parts[0] == sheet and order(parts[1], ease) > 0:
            return True
        if word == "fairest" and parts[0] == sheet and all(order(own, ease) >= 0 for own in eases(*parts)):
            return True
    return False


def comes_of_parts(claim, claims):
    """Whether it comes of claims that a lot is a PART."""
    word, sheet, a, b, lot = claim
    some = [own for own in claims if own[:2] == (word, sheet) and own[2:4] in ((a, b), (b, a))]
    # The greatest PART within lot that comes of them is all of those within it together.
    found = [thing for own in some if all(mine in lot for mine in own[4]) for thing in own[4]]
    return all(thing in found for thing in lot)


def comes_of_alike(claim, claims):
    """Whether it comes of claims that two SHEETS are laid alike."""
    pairs = [(own[1:3], own[3:5]) for own in claims if own[0] == claim[0]]
    nodes = [end for pair in pairs for end in pair]
    start, goal = claim[1:3], claim[3:5]
    if start not in nodes or goal not in nodes:
        return False
    joints = [(nodes.index(one), nodes.index(two)) for one, two in pairs]
    # Each is alike with itself if it is so with any, there and back again.
    return nodes.index(goal) in reached(joints + [(j, i) for i, j in joints], nodes.index(start))


def comes_of(claim, claims):
    """Whether a claim comes of claims; Unfit() if one of all these is none."""
    claim, claims = fit_claim(claim), fit_claims(claims)
    word = claim[0]
    if claim in claims:
        return True
    if word == "stands":
        return any(own[:2] == ("fairest", claim[1]) for own in claims)
    if word == "eased":
        return comes_of_eased(claim[1], claim[2], claims)
    if word == "part":
        return comes_of_parts(claim, claims)
    return word == "alike" and comes_of_alike(claim, claims)


def first_false(claims):
    """The first place whose claim is not so; None if all are; Unfit() if one is none."""
    for place, claim in enumerate(fit_claims(claims)):
        if not is_true(claim):
            return place
    return None
