"""[2], [3], [12]: lots, ties, WAYS and CUTS between them, against all WAYS and all CUTS."""

import unittest
from fractions import Fraction

import plainly
from drawn import ODD_THINGS, PLAIN, drawn_round_sheets, drawn_sheets, listed, pair

from likecuts.errors import Afloat, CanNot, Loose, NoPlace, NoRoom
from likecuts.lots import (is_parting_cut, is_tied_by, lot_alone, lot_tree, lots_at, parting_cut, tie, tied_by)
from likecuts.sheets import is_sheet, stands
from likecuts.towers import fairest, tower

HALF = (((0, 1), (0, 1)), ((1, 1), (2, 1)))
REST = (4, ((3, 0, (-9, 1)), (2, 0, (-2, 1))), ((0, 1, PLAIN), (1, 2, PLAIN), (2, 3, HALF)))
LONE = (1, (), ())
# All of it hard, and 2 and 3 one another's at the least ease already.
FAST = (3, ((0, 1, (1, 1)), (1, 0, (-1, 1)), (1, 2, (2, 1)), (2, 1, (-2, 1))), ())
LOOSE, FLOATING = (2, (), ((0, 1, PLAIN),)), (3, (), ((0, 1, PLAIN), (1, 0, PLAIN)))
SHUT = (2, ((0, 1, (2, 1)), (1, 0, (-1, 1))), ((0, 1, PLAIN), (1, 0, PLAIN)))


def standing_sheets(seed, many=110):
    some = [LONE, REST, FAST] + drawn_sheets(seed, many, 4) + drawn_round_sheets(seed + 1, many)
    return [sheet for sheet in some if plainly.does_stand(sheet)]


def some_eases(sheet):
    """Eases below all, at each one, between and above all."""
    told = sorted(set(plainly.eases(sheet, fairest(sheet)))) or [Fraction(0)]
    between = [(low + high) / 2 for low, high in zip(told, told[1:])]
    return sorted(told + between + [told[0] - 1, told[0] - Fraction(1, 10 ** 9), told[-1] + 5])


class Lots(unittest.TestCase):
    def test_lots(self):
        for sheet in standing_sheets(241):
            layout = fairest(sheet)
            for ease in some_eases(sheet):
                lots = plainly.lots_of(sheet, plainly.binding(sheet, layout, ease))
                self.assertEqual(lots_at(sheet, pair(ease)), lots)
                self.assertEqual(lots_at(ease=list(pair(ease)), sheet=listed(sheet)), lots)
            self.assertEqual(len(lots), 1)

    def test_tree(self):
        seen = set()
        for sheet in standing_sheets(243):
            layout, tree = fairest(sheet), lot_tree(sheet)
            self.assertEqual(lot_tree(sheet=listed(sheet)), tree)
            told = plainly.eases(sheet, layout)
            rows = [(None, tuple(plainly.lots_of(sheet, plainly.binding(sheet, layout, None))))]
            for ease in sorted(set(told)):
                lots = tuple(plainly.lots_of(sheet, plainly.binding(sheet, layout, ease)))
                if lots != rows[-1][1]:
                    rows.append((pair(ease), lots))
            self.assertEqual(tree, tuple(rows))
            seen.add(len(tree))
            self.assertEqual(len(tree[-1][1]), 1)
            # The i and j of each counted RULE are one at its own ease.
            for k, (i, j, _) in enumerate(sheet[2]):
                self.assertTrue(any(i in lot and j in lot for lot in lots_at(sheet, pair(told[k]))))
        self.assertTrue({1, 2, 3} <= seen)

    def test_edges(self):
        self.assertEqual(lot_tree(LONE), ((None, ((0,),)),))
        self.assertEqual(lots_at(LONE, (7, 1)), [(0,)])
        self.assertEqual(lot_tree(FAST), ((None, ((0, 1, 2),)),))
        self.assertEqual([tie(FAST, i, j) for i in range(3) for j in range(3)], [None] * 9)
        self.assertEqual(lot_alone(FAST, 2, (-100, 1)), ((0, 1, 2), FAST))
        self.assertEqual(lot_alone(LONE, 0, (-100, 1)), ((0,), LONE))
        self.assertEqual(lot_alone(REST, 3, (13, 1)), ((3,), LONE))
        # Hard RULES of a lot that are not tight, and counted ones of more ease than asked for.
        wide = (2, ((0, 1, (-5, 1)), (1, 0, (-3, 1))), ((0, 1, PLAIN), (0, 1, HALF), (1, 0, PLAIN)))
        self.assertEqual(fairest(wide), ((0, 1), (0, 1)))
        self.assertEqual(lot_alone(wide, 1, (0, 1)), ((0, 1), wide))
        more = (2, ((1, 0, (-3, 1)), (0, 1, (0, 1))), ((0, 1, PLAIN), (0, 1, HALF)))
        self.assertEqual(lot_alone(more, 1, (3, 1)), ((0, 1), (2, more[1], more[2][:1])))


class Ties(unittest.TestCase):
    def test_ties(self):
        seen = set()
        for sheet in standing_sheets(246):
            layout, ties = fairest(sheet), {}
            rows = [(None, plainly.lots_of(sheet, plainly.binding(sheet, layout, None)))]
            for ease in sorted(set(plainly.eases(sheet, layout))):
                rows.append((pair(ease), plainly.lots_of(sheet, plainly.binding(sheet, layout, ease))))
            for i in range(sheet[0]):
                for j in range(sheet[0]):
                    ties[i, j] = [ease for ease, lots in rows if any(i in lot and j in lot for lot in lots)][0]
                    seen.add(ties[i, j] is None)
                    self.assertEqual(tie(sheet, i, j), ties[i, j])
                    self.assertEqual(tie(j=j, i=i, sheet=listed(sheet)), ties[i, j])
            self.no_greater_than_both(sheet, ties)
        self.assertEqual(seen, {True, False})

    def no_greater_than_both(self, sheet, ties):
        def rank(told):
            return Fraction(-10 ** 9) if told is None else Fraction(*told)
        for i in range(sheet[0]):
            for j in range(sheet[0]):
                for k in range(sheet[0]):
                    self.assertLessEqual(rank(ties[i, k]), max(rank(ties[i, j]), rank(ties[j, k])))

    def test_one_lot_of_a_tower_is_one(self):
        for sheet in standing_sheets(248, 60):
            put = plainly.Tower(sheet)
            for level, ring in tower(sheet):
                put.put(ring, Fraction(*level))
                put.put_fast()
                lots = lots_at(sheet, level)
                for own in put.lots:
                    self.assertTrue(any(set(own) <= set(lot) for lot in lots))


class Papers(unittest.TestCase):
    def test_ways_or_a_cut(self):
        seen = set()
        for sheet in standing_sheets(251, 14):
            for ease in some_eases(sheet)[:5]:
                bound = plainly.binding(sheet, fairest(sheet), ease)
                cuts = [cut for cut in plainly.all_cuts(sheet)
                        if not any(plainly.leaves(plainly.rule(sheet, mark), cut) for mark in bound)]
                for i in range(sheet[0]):
                    for j in range(sheet[0]):
                        there, back = plainly.ways_by(sheet, bound, i, j), plainly.ways_by(sheet, bound, j, i)
                        seen.add((bool(there), bool(back), i == j))
                        self.ways(sheet, i, j, pair(ease), there, back)
                        self.cuts(sheet, i, j, pair(ease), [cut for cut in cuts if (i in cut) != (j in cut)])
        self.assertEqual(len(seen), 5)

    def ways(self, sheet, i, j, ease, there, back):
        if there and back:
            one = tied_by(sheet, i, j, ease)
            self.assertIn(one[0], there)
            self.assertIn(one[1], back)
            self.assertEqual(tied_by(ease=list(ease), j=j, i=i, sheet=listed(sheet)), one)
        else:
            with self.assertRaises(CanNot) as caught:
                tied_by(sheet, i, j, ease)
            self.assertEqual(vars(caught.exception), {})
        for way in there[:3] + [(), (("hard", 0),)]:
            for other in back[:3] + [(), (("ease", 0),)]:
                told = way in there and other in back
                self.assertIs(is_tied_by(sheet, i, j, ease, (way, other)), told)
            self.assertIs(is_tied_by(thing=(way, other), ease=list(ease), j=j, i=i, sheet=listed(sheet)), told)
            for thing in ([way, other], (list(way), other), (way, list(other)), (way, other, ()), (way,), way):
                self.assertIs(is_tied_by(sheet, i, j, ease, thing), False)

    def cuts(self, sheet, i, j, ease, cuts):
        if cuts:
            cut = parting_cut(sheet, i, j, ease)
            self.assertIn(cut, cuts)
            self.assertEqual(parting_cut(ease=list(ease), j=j, i=i, sheet=listed(sheet)), cut)
        else:
            with self.assertRaises(CanNot) as caught:
                parting_cut(sheet, i, j, ease)
            self.assertEqual(vars(caught.exception), {})
        for cut in plainly.all_cuts(sheet):
            self.assertIs(is_parting_cut(sheet, i, j, ease, cut), cut in cuts)
        for own in plainly.all_cuts(sheet)[:1]:
            self.assertIs(is_parting_cut(sheet, i, j, ease, list(own)), False)
            self.assertIs(is_parting_cut(thing=own, ease=list(ease), j=j, i=i, sheet=listed(sheet)), own in cuts)

    def test_no_other_thing(self):
        for thing in ODD_THINGS + ((3, 3), (True,), ((), ()), (((),), ()), (0, 1, 2, 3), (2, 1, 0)):
            self.assertIs(is_tied_by(REST, 3, 1, (14, 1), thing), False)
            self.assertIs(is_tied_by(REST, 1, 1, (0, 1), thing), thing == ((), ()))
            self.assertIs(is_parting_cut(REST, 0, 3, (14, 1), thing), False)
            self.assertIs(is_parting_cut(REST, 0, 3, (13, 1), thing), thing == (0, 1, 2))
            self.assertIs(is_parting_cut(REST, 1, 1, (0, 1), thing), False)
            self.assertIs(is_parting_cut(LONE, 0, 0, (0, 1), thing), False)
        # WAYS that come to a THING twice, or on which a RULE does not bind, or that do not join.
        hard, ease = [("hard", k) for k in range(2)], [("ease", k) for k in range(3)]
        self.assertIs(is_tied_by(REST, 0, 2, (1, 1), ((ease[0], ease[1]), (hard[1],))), True)
        for way in ((ease[0], ease[1], hard[1], ease[0], ease[1]), (ease[1], ease[0]), (ease[0],), (hard[1],),
                    (ease[0], ("ease", True))):
            self.assertIs(is_tied_by(REST, 0, 2, (1, 1), (way, (hard[1],))), False)
        self.assertIs(is_tied_by(REST, 0, 2, (1, 1), ((ease[0], ease[1]), (ease[2], hard[0]))), False)
        self.assertIs(is_tied_by(REST, 0, 2, (14, 1), ((ease[0], ease[1]), (ease[2], hard[0]))), True)
        self.assertIs(is_tied_by(REST, 0, 0, (99, 1), ((ease[0], ease[1], hard[1]), ())), False)


class Alone(unittest.TestCase):
    def test_lots_alone_lie_as_in_the_whole(self):
        seen = set()
        for sheet in standing_sheets(255, 90):
            layout = fairest(sheet)
            told = plainly.eases(sheet, layout)
            for ease in some_eases(sheet):
                for lot in plainly.lots_of(sheet, plainly.binding(sheet, layout, ease)):
                    names = {thing: at for at, thing in enumerate(lot)}
                    hard = tuple((names[i], names[j], far) for i, j, far in sheet[1] if i in lot and j in lot)
                    counted = tuple((names[i], names[j], scale) for k, (i, j, scale) in enumerate(sheet[2])
                                    if i in lot and j in lot and told[k] <= ease)
                    own = (len(lot), hard, counted)
                    for i in lot:
                        self.assertEqual(lot_alone(sheet, i, pair(ease)), (lot, own))
                    self.assertEqual(lot_alone(ease=list(pair(ease)), i=i, sheet=listed(sheet)), (lot, own))
                    self.assertTrue(is_sheet(own))
                    seen.add(stands(own))
                    if stands(own):
                        places = [Fraction(*layout[thing]) - Fraction(*layout[lot[0]]) for thing in lot]
                        self.assertEqual(fairest(own), tuple(pair(place) for place in places))
        self.assertIn(True, seen)


class Errors(unittest.TestCase):
    def calls(self, sheet, i, j):
        return [lambda: tie(sheet, i, j), lambda: tied_by(sheet, i, j, (1, 1)),
                lambda: parting_cut(sheet, i, j, (1, 1)), lambda: is_tied_by(sheet, i, j, (1, 1), None), lambda: is_parting_cut(sheet, i, j, (1, 1), None)]

    def test_what_does_not_stand_first_of_all(self):
        for sheet, kind in ((LOOSE, Loose), (FLOATING, Afloat), (SHUT, NoRoom)):
            calls = self.calls(sheet, 0, 1) + self.calls(sheet, 9, -1) + self.calls(sheet, 0, 0)
            calls += [lambda: lots_at(sheet, (0, 1)), lambda: lot_tree(sheet), lambda: lot_alone(sheet, 9, (0, 1))]
            for call in calls:
                with self.assertRaises(kind):
                    call()

    def test_no_place(self):
        for i, j, place in ((4, -1, 4), (-1, 4, -1), (0, 4, 4), (3, -1, -1), (100, 0, 100), (7, 7, 7)):
            calls = self.calls(REST, i, j)
            if place == i:
                calls.append(lambda: lot_alone(REST, i, (1, 1)))
            for call in calls:
                with self.assertRaises(NoPlace) as caught:
                    call()
                self.assertEqual(vars(caught.exception), {"place": place})

    def test_each_list_is_new_and_arguments_stay(self):
        sheet, ease = listed(REST), [1, 1]
        lots_at(sheet, ease).append(None)
        self.assertEqual(lots_at(sheet, ease), [(0, 1, 2), (3,)])
        lot_tree(sheet), tie(sheet, 0, 1), tied_by(sheet, 0, 1, ease), lot_alone(sheet, 0, ease)
        parting_cut(sheet, 0, 3, ease), is_tied_by(sheet, 0, 1, ease, ((), ())), is_parting_cut(sheet, 0, 3, ease, ())
        self.assertEqual((sheet, ease), (listed(REST), [1, 1]))


if __name__ == "__main__":
    unittest.main()
