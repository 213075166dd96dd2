"""[2], [3], [9]: TOWERS and the fairest LAYOUT, against all CUTS, all RINGS, all ROUNDS."""

import unittest
from fractions import Fraction

import plainly
from drawn import ODD_THINGS, PLAIN, Row, drawn_places, drawn_round_sheets, drawn_sheets, listed, pair

from likecuts.errors import Afloat, Loose, NoRoom, Unfit
from likecuts.layouts import fairer
from likecuts.towers import fairest, first_lots, is_tower, laid_by, levels_of, tower

FRAME = (3, ((2, 0, (-4, 1)),), ((0, 1, PLAIN), (1, 2, PLAIN)))
STEEP = (((0, 1), (0, 1)), ((1, 1), (5, 1)))
ROUND = (("ease", 0), ("ease", 1), ("hard", 0))
LONE = (1, (), ())
# Two gaps of 2 that have nothing to do with one another.
LIKE = (3, ((1, 0, (-2, 1)), (2, 0, (-2, 1))), ((0, 1, PLAIN), (0, 2, PLAIN)))
LEFT, RIGHT = ((2, 1), (("ease", 0), ("hard", 0))), ((2, 1), (("ease", 1), ("hard", 1)))
# 0 and 1 lie fast ahead of the first STAGE.
FAST = (3, ((0, 1, (1, 1)), (1, 0, (-1, 1)), (2, 0, (-5, 1))), ((1, 2, PLAIN),))
# 2 lies fast between hard RULES only when 0 and 1 are put together.
PINNED = (3, ((1, 0, (-2, 1)), (1, 2, (-1, 1)), (2, 0, (-1, 1))), ((0, 1, PLAIN), (0, 2, STEEP)))


def standing_sheets():
    """SHEETS of one to five THINGS that stand."""
    some = [LONE, FRAME, LIKE, FAST, PINNED] + drawn_sheets(101, 150) + drawn_round_sheets(102, 330)
    return [sheet for sheet in some if plainly.does_stand(sheet)]


def near(layout):
    """Layouts near to one: some THINGS moved on a bit, or far."""
    for cut in plainly.all_cuts((len(layout), (), ())):
        for by in (Fraction(1, 97), Fraction(-1, 97), Fraction(1), Fraction(-3)):
            moved = [Fraction(*own) + (by if k in cut else 0) for k, own in enumerate(layout)]
            yield tuple(pair(own - moved[0]) for own in moved)


class Fairest(unittest.TestCase):
    def test_each_cut_is_like_and_each_rule_has_a_reason(self):
        for sheet in standing_sheets():
            layout = fairest(sheet)
            self.assertTrue(plainly.keeps(sheet, layout))
            self.assertTrue(all(plainly.like(sheet, layout, cut) for cut in plainly.all_cuts(sheet)))
            self.assertTrue(plainly.has_reasons(sheet, layout))
            self.assertEqual(fairest(sheet=listed(sheet)), layout)

    def test_no_other_layout_is_as_fair(self):
        row = Row(103)
        for sheet in standing_sheets()[:200]:
            layout = fairest(sheet)
            others = [own for own in near(layout) if plainly.keeps(sheet, own)]
            others += [plainly.some_layout(sheet, drawn_places(row, sheet[0])) for _ in range(4)]
            for other in others:
                if other != layout:
                    self.assertEqual(plainly.compare(plainly.eases(sheet, layout), plainly.eases(sheet, other)), 1)
                    self.assertEqual(fairer(sheet, layout, other), 1)

    def test_edges(self):
        self.assertEqual(fairest(LONE), ((0, 1),))
        self.assertEqual(fairest((2, ((0, 1, (2, 1)), (1, 0, (-2, 1))), ())), ((0, 1), (2, 1)))
        self.assertEqual(fairest(LIKE), ((0, 1), (2, 1), (2, 1)))
        self.assertEqual(fairest(FAST), ((0, 1), (1, 1), (5, 1)))
        # There and back: the one is as much at ease as the other.
        self.assertEqual(fairest((2, (), ((0, 1, PLAIN), (1, 0, PLAIN)))), ((0, 1), (0, 1)))
        self.assertEqual(fairest((2, (), ((0, 1, PLAIN), (1, 0, STEEP)))), ((0, 1), (0, 1)))
        shifted = (((3, 1), (0, 1)), ((4, 1), (1, 1)))
        self.assertEqual(fairest((2, (), ((0, 1, shifted), (1, 0, PLAIN)))), ((0, 1), (3, 2)))

    def test_eight_things_and_twenty_rules(self):
        seen = 0
        for sheet in drawn_round_sheets(104, 60, 8, 19):
            if sheet[0] < 6 or len(sheet[1]) + len(sheet[2]) > 20 or not sheet[2]:
                continue
            try:
                layout = fairest(sheet)
            except Afloat:
                continue
            seen += 1
            self.assertTrue(plainly.keeps(sheet, layout))
            self.assertTrue(all(plainly.like(sheet, layout, cut) for cut in plainly.all_cuts(sheet)))
            self.assertIs(is_tower(sheet, tower(sheet)), True)
        self.assertGreater(seen, 10)

    def test_what_does_not_stand(self):
        seen = {}
        deeds = (fairest, tower, levels_of, first_lots, lambda own: is_tower(own, ()), lambda own: is_tower(own, None),
                 lambda own: laid_by(own, ()))
        for sheet in drawn_sheets(105, 150):
            if plainly.does_stand(sheet):
                continue
            for deed in deeds:
                with self.assertRaises((NoRoom, Loose, Afloat)) as caught:
                    deed(sheet)
                seen[caught.exception.__class__] = True
                self.assertTrue(plainly.tells_why(sheet, caught.exception))
        self.assertEqual(len(seen), 3)


class Towers(unittest.TestCase):
    def test_towers(self):
        seen = set()
        for sheet in standing_sheets():
            stages = tower(sheet)
            seen.add(len(stages))
            self.assertIs(stages.__class__, tuple)
            self.assertEqual(plainly.tower_leads(sheet, stages), fairest(sheet))
            self.assertIs(is_tower(sheet, stages), True)
            self.assertIs(is_tower(thing=stages, sheet=listed(sheet)), True)
            self.assertEqual(tower(sheet=listed(sheet)), stages)
            self.assertEqual(laid_by(sheet, stages), fairest(sheet))
            self.assertEqual(laid_by(tower=listed(stages), sheet=listed(sheet)), fairest(sheet))
            self.assertLess(len(stages), sheet[0])
            levels = sorted({Fraction(*level) for level, _ in stages})
            self.assertEqual(levels_of(sheet), [pair(own) for own in levels])
            self.assertEqual(levels_of(sheet=listed(sheet)), levels_of(sheet))
            self.assertEqual(first_lots(sheet), sorted(tuple(sorted(lot)) for lot in plainly.Tower(sheet).lots))
            self.assertEqual(first_lots(sheet=listed(sheet)), first_lots(sheet))
        self.assertTrue({0, 1, 2, 3} <= seen)

    def test_all_ways_to_put_together(self):
        seen, row = set(), Row(106)
        for sheet in standing_sheets()[:240]:
            if sheet[0] == 5 and len(sheet[1]) + len(sheet[2]) > 7:
                continue
            for stages in plainly.stage_rows(sheet, 12):
                told = self.one_row(sheet, stages)
                seen.add(told)
                if told:
                    self.assertEqual(laid_by(sheet, stages), fairest(sheet))
                    self.assertEqual(sorted({Fraction(*level) for level, _ in stages}),
                                     [Fraction(*level) for level in levels_of(sheet)])
                    self.assertLess(len(stages), sheet[0])
                for _ in range(3 if stages else 0):
                    seen.add((self.one_row(sheet, self.changed(sheet, stages, row)), "changed"))
        self.assertEqual(len(seen), 4)

    def one_row(self, sheet, stages):
        leads = plainly.tower_leads(sheet, stages)
        self.assertIs(is_tower(sheet, stages), leads is not None, (sheet, stages))
        if leads is None:
            with self.assertRaises(Unfit) as caught:
                laid_by(sheet, stages)
            self.assertEqual(vars(caught.exception), {})
        return leads is not None

    def changed(self, sheet, stages, row):
        rows, at = list(stages), row.below(len(stages))
        level, ring = rows[at]
        kind = row.below(7)
        if kind < 2:
            rows[at] = (level, ring[1:] + ring[:1])
        elif kind == 2:
            rows[at] = (row.one_of([own for own, _ in rows] + [row.fraction()]), ring)
        elif kind == 3:
            rows = rows[::-1]
        elif kind == 4:
            del rows[at]
        elif kind == 5:
            rows.append(row.one_of(rows))
        else:
            marks = plainly.marks(sheet)
            rows[at] = (level, tuple(row.one_of(marks) if row.below(2) else mark for mark in ring))
        return tuple(rows)

    def test_behind_fast_rings(self):
        self.assertEqual(first_lots(FAST), [(0, 1), (2,)])
        self.assertEqual(levels_of(FAST), [(4, 1)])
        short, around = (("ease", 0), ("hard", 2)), (("hard", 0), ("ease", 0), ("hard", 2))
        self.assertIs(is_tower(FAST, (((4, 1), short),)), True)
        self.assertIs(is_tower(FAST, (((4, 1), short[::-1]),)), True)
        self.assertIs(is_tower(FAST, (((4, 1), around),)), False)
        self.assertEqual(laid_by(FAST, (((4, 1), short),)), ((0, 1), (1, 1), (5, 1)))

    def test_stages_of_like_levels(self):
        for stages in ((LEFT, RIGHT), (RIGHT, LEFT)):
            self.assertIs(is_tower(LIKE, stages), True)
            self.assertEqual(laid_by(LIKE, stages), fairest(LIKE))
        self.assertEqual(levels_of(LIKE), [(2, 1)])
        for stages in ((LEFT,), (RIGHT,), (), (LEFT, LEFT), (LEFT, RIGHT, LEFT), (LEFT, RIGHT, RIGHT)):
            self.assertIs(is_tower(LIKE, stages), False)
            with self.assertRaises(Unfit):
                laid_by(LIKE, stages)

    def test_fast_behind_a_stage(self):
        stage = ((2, 1), (("ease", 0), ("hard", 0)))
        self.assertIs(is_tower(PINNED, (stage,)), True)
        self.assertEqual(tower(PINNED)[0][0], (2, 1))
        self.assertEqual(len(tower(PINNED)), 1)
        more = ((5, 1), (("ease", 1), ("hard", 2)))
        self.assertIs(is_tower(PINNED, (stage, more)), False)
        self.assertIs(is_tower(PINNED, (more, stage)), False)
        self.assertEqual(first_lots(PINNED), [(0,), (1,), (2,)])

    def test_no_level_below_the_one_ahead(self):
        rest = (3, ((1, 0, (-1, 1)), (2, 0, (-5, 1))), ((0, 1, PLAIN), (0, 2, PLAIN)))
        low, high = ((1, 1), (("ease", 0), ("hard", 0))), ((5, 1), (("ease", 1), ("hard", 1)))
        self.assertIs(is_tower(rest, (low, high)), True)
        self.assertIs(is_tower(rest, (high, low)), False)
        self.assertEqual(levels_of(rest), [(1, 1), (5, 1)])

    def test_a_layout_with_less_ease_or_none(self):
        # The ROUND of the greater level first: then the other one has less ease than that, or a hard RULE is broken.
        two = (2, ((1, 0, (-1, 1)), (1, 0, (-5, 1))), ((0, 1, PLAIN),))
        self.assertIs(is_tower(two, (((1, 1), (("ease", 0), ("hard", 0))),)), True)
        self.assertIs(is_tower(two, (((5, 1), (("ease", 0), ("hard", 1))),)), False)
        both = (2, (), ((0, 1, PLAIN), (0, 1, STEEP), (1, 0, PLAIN)))
        self.assertIs(is_tower(both, (((0, 1), (("ease", 0), ("ease", 2))),)), True)
        more = (2, ((1, 0, (-4, 1)),), ((0, 1, PLAIN), (0, 1, STEEP)))
        self.assertIs(is_tower(more, (((4, 1), (("ease", 0), ("hard", 0))),)), True)
        self.assertIs(is_tower(more, (((20, 1), (("ease", 1), ("hard", 0))),)), False)

    def test_no_other_thing(self):
        stage = ((2, 1), ROUND)
        self.assertIs(is_tower(FRAME, (stage,)), True)
        others = ([stage], (list(stage),), (([2, 1], ROUND),), (((2, 1), list(ROUND)),), (((4, 2), ROUND),),
                  ((2, ROUND),), (((2, 1), ROUND, ()),), (((2, 1),),), (((2, True), ROUND),), ((None, ROUND),),
                  (((2, 1), ()),), (((2, 1), (list(ROUND[0]),) + ROUND[1:]),), (((2, 1), ROUND[:1]),),
                  (((2, 1), ROUND + ROUND),), (((2, 1), ROUND[::-1]),), (((2, 1), (("ease", False),) + ROUND[1:]),),
                  (((2, 1), (("ease", 2),) + ROUND[1:]),), (stage, None), (stage, stage), (((2, 1), None),))
        for thing in others + ODD_THINGS:
            self.assertIs(is_tower(FRAME, thing), False, repr(thing)[:80])
        for thing in ODD_THINGS:
            self.assertIs(is_tower(LONE, thing), thing == () and isinstance(thing, tuple))
        self.assertIs(is_tower(LONE, ()), True)
        self.assertEqual(laid_by(LONE, []), ((0, 1),))
        for thing in (None, True, 7, "tower", ((1, 2),), [[[1, 2], 3]]):
            with self.assertRaises(Unfit):
                laid_by(FRAME, thing)

    def test_each_list_is_new_and_arguments_stay(self):
        for sheet in (FRAME, LIKE, LONE):
            own, stages = listed(sheet), listed(tower(sheet))
            levels_of(own).append(None)
            first_lots(own).append(None)
            laid_by(own, stages)
            self.assertNotIn(None, levels_of(own) + first_lots(own))
            self.assertEqual((own, stages), (listed(sheet), listed(tower(sheet))))


if __name__ == "__main__":
    unittest.main()
