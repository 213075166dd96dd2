"""[2], [3], [10]: CUTS, best steps and COMPLAINTS, against all CUTS and all steps."""

import unittest
from fractions import Fraction

import plainly
from drawn import ODD_THINGS, PLAIN, Row, drawn_places, drawn_round_sheets, drawn_sheets, listed, pair

from likecuts.cuts import (all_like, best_step, complaint, entering, is_complaint, is_like, is_unlike_cut, least_in,
                           least_out, leaving, moved_on, unlike_cut, unlike_cuts)
from likecuts.errors import CanNot
from likecuts.layouts import fairer, is_layout
from likecuts.towers import fairest

FRAME = (3, ((2, 0, (-4, 1)),), ((0, 1, PLAIN), (1, 2, PLAIN)))
EVEN, SKEW, LOW = ((0, 1), (2, 1), (4, 1)), ((0, 1), (1, 1), (4, 1)), ((0, 1), (1, 1), (2, 1))
LONE = (1, (), ())
LOOSE = (2, (), ((0, 1, PLAIN),))


def with_layouts(seed, many=2):
    """SHEETS, standing or not, each with some LAYOUTS, the fairest one among them where it stands."""
    row, found = Row(seed), [(FRAME, [EVEN, SKEW, LOW]), (LONE, [((0, 1),)]), (LOOSE, [((0, 1), (5, 1))])]
    for sheet in drawn_sheets(seed + 1, 40, 4) + drawn_round_sheets(seed + 2, 60):
        if plainly.without_room(sheet):
            continue
        layouts = [plainly.some_layout(sheet, drawn_places(row, sheet[0])) for _ in range(many)]
        if plainly.does_stand(sheet):
            layouts.append(fairest(sheet))
        found.append((sheet, layouts))
    return found


def told(number):
    return None if number is None else pair(number)


class Around(unittest.TestCase):
    def test_leaving_and_entering(self):
        for sheet, layouts in with_layouts(201, 1):
            for cut in plainly.all_cuts(sheet):
                out = [mark for mark in plainly.marks(sheet) if plainly.leaves(plainly.rule(sheet, mark), cut)]
                into = [mark for mark in plainly.marks(sheet) if plainly.enters(plainly.rule(sheet, mark), cut)]
                self.assertEqual(leaving(sheet, cut), tuple(sorted(out)))
                self.assertEqual(entering(sheet, cut), tuple(sorted(into)))
                self.assertEqual(leaving(cut=list(cut), sheet=listed(sheet)), tuple(sorted(out)))
                self.assertEqual(entering(cut=list(cut), sheet=listed(sheet)), tuple(sorted(into)))
                for layout in layouts:
                    self.one_layout(sheet, layout, cut, out, into)

    def one_layout(self, sheet, layout, cut, out, into):
        eases = plainly.eases(sheet, layout)
        least = [min([eases[k] for word, k in some if word == "ease"], default=None) for some in (out, into)]
        for deed, own in ((least_out, told(least[0])), (least_in, told(least[1]))):
            self.assertEqual(deed(sheet, layout, cut), own)
            self.assertEqual(deed(cut=list(cut), layout=listed(layout), sheet=listed(sheet)), own)

    def test_marks_ascend(self):
        sheet = (2, ((0, 1, (0, 1)), (0, 1, (1, 1))), ((0, 1, PLAIN), (1, 0, PLAIN), (0, 1, PLAIN)))
        self.assertEqual(leaving(sheet, (0,)), (("ease", 0), ("ease", 2), ("hard", 0), ("hard", 1)))
        self.assertEqual(entering(sheet, (0,)), (("ease", 1),))
        self.assertEqual(leaving(LOOSE, (1,)), ())
        self.assertIsNone(least_out(LOOSE, ((0, 1), (5, 1)), (1,)))
        self.assertEqual(least_in(LOOSE, ((0, 1), (5, 1)), (1,)), (5, 1))


class Like(unittest.TestCase):
    def test_like_cuts(self):
        seen = set()
        for sheet, layouts in with_layouts(204):
            for layout in layouts:
                unlike = [cut for cut in plainly.all_cuts(sheet) if not plainly.like(sheet, layout, cut)]
                seen.add(bool(unlike))
                for cut in plainly.all_cuts(sheet):
                    self.assertIs(is_like(sheet, layout, cut), cut not in unlike)
                    self.assertIs(is_like(cut=list(cut), layout=listed(layout), sheet=listed(sheet)), cut not in unlike)
                    self.assertIs(is_unlike_cut(sheet, layout, cut), cut in unlike)
                    self.assertIs(is_unlike_cut(thing=cut, layout=listed(layout), sheet=listed(sheet)), cut in unlike)
                    self.assertIs(is_unlike_cut(sheet, layout, list(cut)), False)
                self.assertEqual(unlike_cuts(sheet, layout), sorted(unlike))
                self.assertEqual(unlike_cuts(layout=listed(layout), sheet=listed(sheet)), sorted(unlike))
                self.assertIs(all_like(sheet, layout), not unlike)
                self.assertIs(all_like(layout=listed(layout), sheet=listed(sheet)), not unlike)
                if unlike:
                    fewest = min(unlike, key=lambda cut: (len(cut), cut))
                    self.assertEqual(unlike_cut(sheet, layout), fewest)
                    self.assertEqual(unlike_cut(layout=listed(layout), sheet=listed(sheet)), fewest)
                else:
                    self.refused(unlike_cut, sheet, layout)
                    self.refused(complaint, sheet, layout)
        self.assertEqual(seen, {True, False})

    def refused(self, deed, *arguments):
        with self.assertRaises(CanNot) as caught:
            deed(*arguments)
        self.assertEqual(vars(caught.exception), {})

    def test_only_the_fairest_has_all_cuts_like(self):
        seen = set()
        for sheet, layouts in with_layouts(207, 4):
            if plainly.does_stand(sheet):
                for layout in layouts:
                    seen.add(layout == fairest(sheet))
                    self.assertIs(all_like(sheet, layout), layout == fairest(sheet))
        self.assertEqual(seen, {True, False})

    def test_no_other_thing(self):
        for thing in ODD_THINGS + ([1], (2, 1), (1, 1), (0, 1, 2), (), (3,), (-1,), (1.0,), (True,), (0, 0)):
            told = thing == (1,) and isinstance(thing, tuple) and not isinstance(thing[0], bool)
            self.assertIs(is_unlike_cut(FRAME, SKEW, thing), told and not isinstance(thing[0], float))
            self.assertIs(is_unlike_cut(LONE, ((0, 1),), thing), False)
        self.assertIs(is_unlike_cut(FRAME, SKEW, (1,)), True)

    def test_one_thing(self):
        self.assertEqual(unlike_cuts(LONE, ((0, 1),)), [])
        self.assertIs(all_like(LONE, ((0, 1),)), True)
        self.refused(unlike_cut, LONE, ((0, 1),))
        self.refused(complaint, LONE, ((0, 1),))

    def test_edges(self):
        # As much ease going out as coming in; none coming in; a hard RULE that is just tight, or just not.
        self.assertIs(is_like(FRAME, EVEN, (1,)), True)
        self.assertIs(is_like(LOOSE, ((0, 1), (5, 1)), (0,)), True)
        self.assertIs(is_like(LOOSE, ((0, 1), (5, 1)), (1,)), False)
        self.assertIs(is_like(FRAME, ((0, 1), (3, 1), (4, 1)), (2,)), True)
        self.assertIs(is_like(FRAME, ((0, 1), (3, 1), (39, 10)), (2,)), False)


class Steps(unittest.TestCase):
    def test_moved_on(self):
        row = Row(210)
        for sheet, layouts in with_layouts(211, 1):
            for cut in plainly.all_cuts(sheet):
                for far in ((0, 1), row.fraction(), (-7, 3)):
                    own = plainly.moved(layouts[0], cut, Fraction(*far))
                    self.assertEqual(moved_on(layouts[0], cut, far), own)
                    self.assertEqual(moved_on(far=list(far), cut=list(cut), layout=listed(layouts[0])), own)
        # Whether it is a LAYOUT or not.
        self.assertEqual(moved_on(EVEN, (2,), (9, 1)), ((0, 1), (2, 1), (13, 1)))
        self.assertEqual(moved_on(EVEN, (0, 2), (1, 2)), ((0, 1), (3, 2), (4, 1)))

    def test_best_steps(self):
        seen = set()
        for sheet, layouts in with_layouts(212):
            for layout in layouts:
                for cut in plainly.all_cuts(sheet):
                    seen.add(self.one_step(sheet, layout, cut))
        self.assertEqual(seen, {"like", "loose", "tight", "even"})

    def one_step(self, sheet, layout, cut):
        if plainly.like(sheet, layout, cut):
            self.assertEqual(best_step(sheet, layout, cut), (0, 1))
            return "like"
        steps = plainly.best_steps(sheet, layout, cut)
        if not steps:
            with self.assertRaises(CanNot) as caught:
                best_step(sheet, layout, cut)
            self.assertEqual(vars(caught.exception), {})
            return "loose"
        step = best_step(sheet, layout, cut)
        self.assertEqual([step], [pair(own) for own in steps])
        self.assertEqual(best_step(cut=list(cut), layout=listed(layout), sheet=listed(sheet)), step)
        other = moved_on(layout, cut, step)
        self.assertTrue(plainly.keeps(sheet, other))
        self.assertEqual(plainly.compare(plainly.eases(sheet, other), plainly.eases(sheet, layout)), 1)
        out = [own for own in sheet[1] if plainly.leaves(own, cut)]
        return "tight" if any(plainly.is_tight(other, own) for own in out) else "even"

    def test_each_best_step_is_told_where_it_stands(self):
        for sheet, layouts in with_layouts(215):
            if plainly.does_stand(sheet):
                for cut in plainly.all_cuts(sheet):
                    best_step(sheet, layouts[0], cut)

    def test_scales_of_several_corners(self):
        bent = (((0, 1), (0, 1)), ((1, 1), (4, 1)), ((3, 1), (5, 1)), ((4, 1), (20, 1)))
        # Eases 4 and 9 at first; beyond the corner at 3 they are even: 5 + 15 / 8 and 10 - 25 / 8.
        sheet = (3, ((2, 0, (-10, 1)),), ((0, 1, bent), (1, 2, PLAIN)))
        layout = ((0, 1), (1, 1), (10, 1))
        self.assertEqual(best_step(sheet, layout, (1,)), (17, 8))
        self.assertEqual(complaint(sheet, layout)[1], ((0, 1), (25, 8), (10, 1)))
        self.assertEqual(best_step((3, sheet[1] + ((1, 2, (8, 1)),), sheet[2]), layout, (1,)), (1, 1))
        # Of several that leave that with the least ease decides.
        more = (3, sheet[1], sheet[2] + ((1, 2, (((0, 1), (0, 1)), ((2, 1), (1, 1)))),))
        self.assertIs(is_like(more, layout, (1,)), False)
        self.assertEqual(best_step(more, layout, (1,)), (1, 2))


class Complaints(unittest.TestCase):
    def test_complaints(self):
        seen = set()
        for sheet, layouts in with_layouts(220):
            for layout in layouts:
                unlike = [cut for cut in plainly.all_cuts(sheet) if not plainly.like(sheet, layout, cut)]
                if not unlike:
                    continue
                cut = min(unlike, key=lambda own: (len(own), own))
                steps = plainly.best_steps(sheet, layout, cut)
                seen.add(bool(steps))
                if not steps:
                    with self.assertRaises(CanNot):
                        complaint(sheet, layout)
                    continue
                own = (cut, plainly.moved(layout, cut, steps[0]))
                self.assertEqual(complaint(sheet, layout), own)
                self.assertEqual(complaint(layout=listed(layout), sheet=listed(sheet)), own)
                self.assertIs(is_complaint(sheet, layout, own), True)
                self.assertIs(is_complaint(thing=own, layout=listed(layout), sheet=listed(sheet)), True)
                for other in (list(own), (list(own[0]), own[1]), (own[0], list(own[1])), own + own, own[:1],
                              (own[0], listed(own[1])), (own[1], own[0]), (tuple(range(sheet[0])), own[1]),
                              ((), own[1]), (own[0], None), (None, own[1])):
                    self.assertIs(is_complaint(sheet, layout, other), False)
        self.assertEqual(seen, {True, False})

    def test_all_cuts_moved_on(self):
        seen, row = set(), Row(223)
        for sheet, layouts in with_layouts(224, 1):
            for layout in layouts:
                for cut in plainly.all_cuts(sheet):
                    best = plainly.best_steps(sheet, layout, cut) if not plainly.like(sheet, layout, cut) else []
                    for far in [Fraction(0), Fraction(-1, 50), Fraction(*row.fraction()), Fraction(1, 1000)] + best[:1]:
                        seen.add(self.one_move(sheet, layout, cut, far))
        self.assertEqual(seen, {True, False})

    def one_move(self, sheet, layout, cut, far):
        other = plainly.moved(layout, cut, far)
        is_one = far > 0 and plainly.keeps(sheet, other) and plainly.compare(
            plainly.eases(sheet, other), plainly.eases(sheet, layout)) > 0
        self.assertIs(is_complaint(sheet, layout, (cut, other)), is_one)
        if is_one:
            self.assertIs(is_like(sheet, layout, cut), False)
            self.assertTrue(is_layout(sheet, other))
            self.assertEqual(fairer(sheet, other, layout), 1)
            # Not with the other THINGS as the CUT, nor with any other one.
            for own in plainly.all_cuts(sheet):
                self.assertIs(is_complaint(sheet, layout, (own, other)), own == cut)
        return is_one

    def test_a_fairer_layout_that_is_not_one_cut_moved_on(self):
        sheet = (4, ((3, 0, (-6, 1)),), ((0, 1, PLAIN), (1, 2, PLAIN), (2, 3, PLAIN)))
        layout, best = ((0, 1), (1, 1), (2, 1), (6, 1)), ((0, 1), (2, 1), (4, 1), (6, 1))
        self.assertEqual(fairer(sheet, best, layout), 1)
        for cut in plainly.all_cuts(sheet):
            self.assertIs(is_complaint(sheet, layout, (cut, best)), False)

    def test_no_other_thing(self):
        for thing in ODD_THINGS + (((1,), SKEW), ((2,), EVEN), ((0, 2), EVEN), ((1,), EVEN + ((0, 1),))):
            self.assertIs(is_complaint(FRAME, SKEW, thing), False)
            self.assertIs(is_complaint(LONE, ((0, 1),), thing), False)
        self.assertIs(is_complaint(FRAME, SKEW, ((1,), EVEN)), True)
        self.assertIs(is_complaint(FRAME, SKEW, ((1,), ((0, 1), (3, 2), (4, 1)))), True)

    def test_each_list_is_new_and_arguments_stay(self):
        sheet, layout, cut = listed(FRAME), listed(SKEW), [1]
        unlike_cuts(sheet, layout).append(None)
        self.assertEqual(unlike_cuts(sheet, layout), [(1,)])
        leaving(sheet, cut), entering(sheet, cut), least_in(sheet, layout, cut), least_out(sheet, layout, cut)
        best_step(sheet, layout, cut), complaint(sheet, layout), moved_on(layout, cut, [1, 2])
        self.assertEqual((sheet, layout, cut), (listed(FRAME), listed(SKEW), [1]))


if __name__ == "__main__":
    unittest.main()
