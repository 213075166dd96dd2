"""[2], [3], [18]: idle RULES against all ways, felt ones against the fairest LAYOUT without them."""

import time
import unittest
from fractions import Fraction

import plainly
from drawn import (ODD_THINGS, PLAIN, Row, bent, big_sheet, drawn_places, drawn_round_sheets, drawn_sheets, listed,
                   pair)

from likecuts.errors import Afloat, CanNot, Loose, NoPlace, NoRoom
from likecuts.idle import (bypass, felt_marks, idle_hard, is_bypass, is_felt, is_slip, is_unfelt_witness, laid_without,
                           lean_marks, lean_sheet, slip, unfelt_witness)
from likecuts.sheets import stands
from likecuts.towers import fairest

FRAME = (3, ((2, 0, (-4, 1)),), ((0, 1, PLAIN), (1, 2, PLAIN)))
BOXES = (3, ((0, 1, (2, 1)), (1, 2, (2, 1)), (0, 2, (3, 1)), (2, 0, (-9, 1))), FRAME[2])
TWICE = (3, FRAME[1], FRAME[2][:1] + FRAME[2])
LONE = (1, (), ())
LOOSE, FLOATING = (2, (), ((0, 1, PLAIN),)), (3, (), ((0, 1, PLAIN), (1, 0, PLAIN)))
SHUT = (3, ((0, 1, (2, 1)), (1, 0, (-1, 1)), (0, 2, (1, 1))), ((0, 1, PLAIN), (1, 0, PLAIN)))


def with_followers(row, sheet):
    """The SHEET with hard RULES that follow from others, or just do not, and with equal ones."""
    hard = list(sheet[1])
    for _ in range(2):
        if not hard or sheet[0] < 2:
            break
        i, j, _ = row.one_of(hard)
        ways = [way for k in range(sheet[0]) if k != i for way in plainly.all_ways(sheet, i, k)
                if plainly.rule(sheet, way[-1])[1] == k]
        if ways:
            way = row.one_of(ways)
            far = plainly.hard_sum(sheet, way) - row.one_of((0, 0, 1, Fraction(-1, 2)))
            hard.insert(row.below(len(hard) + 1), (i, plainly.rule(sheet, way[-1])[1], pair(far)))
        hard.append(row.one_of(hard))
    return (sheet[0], tuple(hard[:8]), sheet[2])


def many_sheets(seed, many=60):
    row = Row(seed)
    some = [LONE, FRAME, BOXES, TWICE, LOOSE, FLOATING, SHUT]
    some += drawn_sheets(seed + 1, many, 4) + drawn_round_sheets(seed + 2, many, 4)
    return some + [with_followers(row, sheet) for sheet in drawn_round_sheets(seed + 3, many, 4)]


def hard_sheet(row):
    """The next SHEET of hard RULES alone, many of which just follow from others, or just do not."""
    many = row.between(3, 5)
    places, hard = [row.between(0, 8) for _ in range(many)], []
    for _ in range(row.between(3, 9)):
        i = row.below(many)
        j = (i + 1 + row.below(many - 1)) % many
        hard.append((i, j, (places[j] - places[i] - row.below(3), 1)))
    return (many, tuple(hard), ())


def roomy_sheets(seed, many=60):
    row = Row(seed + 4)
    some = many_sheets(seed, many) + [hard_sheet(row) for _ in range(many)]
    return [sheet for sheet in some if not plainly.without_room(sheet)]


def standing_sheets(seed, many=40):
    return [sheet for sheet in many_sheets(seed, many) if plainly.does_stand(sheet)]


class Idle(unittest.TestCase):
    def test_by_all_ways(self):
        row, seen = Row(431), set()
        for sheet in roomy_sheets(432):
            idle = []
            for k in range(len(sheet[1])):
                every = plainly.bypasses(sheet, k)
                seen.add(min([len(way) for way in every], default=0))
                if every:
                    idle.append(k)
                self.bypasses(sheet, k, every)
                self.slips(sheet, k, every, row)
            self.assertEqual(idle_hard(sheet), tuple(idle))
            self.assertEqual(idle_hard(sheet=listed(sheet)), tuple(idle))
        self.assertTrue({0, 1, 2, 3} <= seen)

    def bypasses(self, sheet, k, every):
        if every:
            least = min(every, key=lambda way: (len(way), way))
            self.assertEqual(bypass(sheet, k), least)
            self.assertEqual(bypass(k=k, sheet=listed(sheet)), least)
            self.assertIs(is_bypass(thing=least, k=k, sheet=listed(sheet)), True)
            self.assertIs(is_bypass(sheet, k, list(least)), False)
            self.assertIs(is_bypass(sheet, k, listed(least)), False)
        else:
            with self.assertRaises(CanNot) as caught:
                bypass(sheet, k)
            self.assertEqual(vars(caught.exception), {})
        for i in range(sheet[0]):
            for j in range(sheet[0]):
                for way in plainly.all_ways(sheet, i, j):
                    self.assertIs(is_bypass(sheet, k, way), way in every)

    def slips(self, sheet, k, every, row):
        rest = plainly.without(sheet, ("hard", k))
        if every:
            with self.assertRaises(CanNot) as caught:
                slip(sheet, k)
            self.assertEqual(vars(caught.exception), {})
        else:
            own = slip(sheet, k)
            self.assertTrue(plainly.keeps(rest, own) and not plainly.keeps(sheet, own))
            self.assertIs(is_slip(sheet, k, own), True)
            self.assertIs(is_slip(thing=own, k=k, sheet=listed(sheet)), True)
            self.assertIs(is_slip(sheet, k, listed(own)), False)
            self.assertEqual(slip(k=k, sheet=listed(sheet)), own)
        for places in (sheet, rest, (sheet[0], (), ())):
            own = plainly.some_layout(places, drawn_places(row, sheet[0]))
            is_one = plainly.keeps(rest, own) and not plainly.keeps(sheet, own)
            self.assertFalse(is_one and every)
            self.assertIs(is_slip(sheet, k, own), is_one)

    def test_not_the_longest_but_the_shortest_bypass(self):
        # By 1 and by 2 it is far enough; by both it is farther, but longer.
        sheet = (4, ((0, 3, (3, 1)), (0, 1, (1, 1)), (1, 3, (2, 1)), (0, 2, (2, 1)), (2, 3, (1, 1)), (1, 2, (9, 1))), ())
        self.assertEqual(bypass(sheet, 0), (("hard", 1), ("hard", 2)))
        self.assertEqual(bypass((4, ((0, 3, (4, 1)),) + sheet[1][1:], ()), 0), (("hard", 1), ("hard", 5), ("hard", 4)))
        self.assertIs(is_bypass(sheet, 0, (("hard", 1), ("hard", 5), ("hard", 4))), True)
        # The least first mark is not enough by itself.
        other = (4, ((0, 3, (3, 1)), (0, 1, (0, 1)), (1, 3, (2, 1)), (0, 2, (2, 1)), (2, 3, (1, 1)), (1, 3, (3, 1))), ())
        self.assertEqual(bypass(other, 0), (("hard", 1), ("hard", 5)))
        self.assertEqual(bypass((4, other[1][:5], ()), 0), (("hard", 3), ("hard", 4)))

    def test_equal_rules(self):
        both = (2, ((0, 1, (2, 1)), (0, 1, (2, 1)), (0, 1, (1, 1))), ())
        self.assertEqual(idle_hard(both), (0, 1, 2))
        self.assertEqual((bypass(both, 0), bypass(both, 1), bypass(both, 2)),
                         ((("hard", 1),), (("hard", 0),), (("hard", 0),)))
        self.assertEqual(idle_hard((2, both[1][1:], ())), (1,))
        # A way that has the RULE itself is none; nor is one of counted RULES.
        self.assertIs(is_bypass(both, 0, (("hard", 0),)), False)
        self.assertIs(is_bypass(FRAME, 0, ()), False)
        self.assertIs(is_bypass((2, ((0, 1, (0, 1)),), ((0, 1, PLAIN),)), 0, (("ease", 0),)), False)
        fast = (2, ((0, 1, (2, 1)), (1, 0, (-2, 1))), ())
        self.assertEqual(idle_hard(fast), ())
        self.assertEqual(idle_hard(LONE), ())

    def test_no_other_thing(self):
        self.assertIs(is_bypass(BOXES, 2, (("hard", 0), ("hard", 1))), True)
        self.assertIs(is_slip(BOXES, 0, ((0, 1), (1, 1), (4, 1))), True)
        for thing in ODD_THINGS + ((["hard", 0], ("hard", 1)), (("hard", False), ("hard", 1)), ("hard", 0, "hard", 1),
                                   ((0, 1), (1, 1)), ((0, 1), (1, 1), [4, 1]), ((0, 1), (1, True), (4, 1)),
                                   ((0, 1), (1, 1), (4, 1), (4, 1)), ((1, 1), (2, 1), (5, 1)),
                                   (("hard", 0), ("hard", 1), ("hard", 3), ("hard", 0), ("hard", 1))):
            for k in range(4):
                self.assertIs(is_bypass(BOXES, k, thing), False, thing)
                self.assertIs(is_slip(BOXES, k, thing), False, thing)


class Felt(unittest.TestCase):
    def test_by_the_sheet_without_each(self):
        seen = set()
        for sheet in standing_sheets(441):
            layout, felt = fairest(sheet), []
            for mark in plainly.marks(sheet):
                rest = plainly.without(sheet, mark)
                is_same = plainly.fairest_by(rest, layout)
                seen.add((mark[0], is_same, plainly.does_stand(rest)))
                if not is_same:
                    felt.append(mark)
                self.assertIs(is_felt(sheet, mark), not is_same)
                self.assertIs(is_felt(mark=list(mark), sheet=listed(sheet)), not is_same)
                self.laid(sheet, mark, rest)
            self.assertEqual(felt_marks(sheet), tuple(sorted(felt)))
            self.assertEqual(felt_marks(sheet=listed(sheet)), tuple(sorted(felt)))
            for k in idle_hard(sheet):
                self.assertNotIn(("hard", k), felt)
        self.assertEqual(len(seen), 6)

    def laid(self, sheet, mark, rest):
        if plainly.does_stand(rest):
            own = laid_without(sheet, mark)
            self.assertTrue(plainly.is_fairest(rest, own))
            self.assertEqual(laid_without(mark=list(mark), sheet=listed(sheet)), own)
            return
        with self.assertRaises((Loose, Afloat)) as caught:
            laid_without(sheet, mark)
        self.assertTrue(plainly.tells_why(rest, caught.exception))

    def test_witnesses(self):
        row, seen = Row(444), set()
        for sheet in standing_sheets(445, 30):
            layout = fairest(sheet)
            every = [plainly.reasons_for(sheet, layout, k) for k in range(len(sheet[2]))]
            for mark in plainly.marks(sheet):
                told = [None if mark == ("ease", k) else [ring for ring in rings if mark not in ring]
                        for k, rings in enumerate(every)]
                is_one = len(plainly.hung(plainly.without(sheet, mark))) == 1 and [] not in told
                self.assertIs(is_felt(sheet, mark), not is_one)
                if not is_one:
                    with self.assertRaises(CanNot) as caught:
                        unfelt_witness(sheet, mark)
                    self.assertEqual(vars(caught.exception), {})
                else:
                    self.witness(sheet, mark, told, row)
                seen.add(is_one)
                self.others(sheet, mark, told if is_one else None, every, row)
        self.assertEqual(seen, {True, False})

    def witness(self, sheet, mark, told, row):
        own = unfelt_witness(sheet, mark)
        self.assertTrue(self.is_one(told, own))
        self.assertIs(is_unfelt_witness(sheet, mark, own), True)
        self.assertIs(is_unfelt_witness(thing=own, mark=list(mark), sheet=listed(sheet)), True)
        self.assertEqual(unfelt_witness(mark=list(mark), sheet=listed(sheet)), own)
        for thing in (list(own), own + (None,), own + own[:1], own[1:]):
            self.assertIs(is_unfelt_witness(sheet, mark, thing), thing == own)

    def is_one(self, told, thing):
        """Whether a tuple of None and of tuples of marks is a WITNESS; told are the REASONS that each may have."""
        if not isinstance(thing, tuple) or len(thing) != len(told):
            return False
        for rings, own in zip(told, thing):
            if rings is None or own is None:
                if rings is not own:
                    return False
            elif own not in [ring[at:] + ring[:at] for ring in rings for at in range(len(ring))]:
                return False
        return True

    def others(self, sheet, mark, told, every, row):
        """REASONS of all kinds, with the mark and without, and what is bent in one place."""
        for _ in range(6):
            thing = []
            for k, rings in enumerate(every):
                ring = row.one_of(rings)
                turn = row.below(len(ring))
                thing.append(None if mark == ("ease", k) else ring[turn:] + ring[:turn])
            for own in (tuple(thing), bent(row, tuple(thing))):
                right = told is not None and self.is_strict(own) and self.is_one(told, own)
                self.assertIs(is_unfelt_witness(sheet, mark, own), right, (sheet, mark, own))

    def is_strict(self, value):
        """Whether no list and no bool stands in it: these are equal to what they are not."""
        if isinstance(value, tuple):
            return all(self.is_strict(own) for own in value)
        return not isinstance(value, (list, bool))

    def test_no_other_thing(self):
        loose = (2, ((0, 1, (2, 1)), (1, 0, (-2, 1)), (1, 0, (-7, 1))), ())
        self.assertEqual(unfelt_witness(loose, ("hard", 2)), ())
        with self.assertRaises(CanNot):
            unfelt_witness(loose, ("hard", 1))
        self.assertIs(is_unfelt_witness(loose, ("hard", 1), ()), False)
        for thing in ODD_THINGS:
            self.assertIs(is_unfelt_witness(FRAME, ("hard", 0), thing), False)
            self.assertIs(is_unfelt_witness(BOXES, ("hard", 2), thing), False)
            self.assertIs(is_unfelt_witness(loose, ("hard", 2), thing), thing == () and isinstance(thing, tuple))
        about = (("ease", 2), ("hard", 0), ("ease", 0))
        self.assertIs(is_unfelt_witness(TWICE, ("ease", 1), (about, None, about)), True)
        for thing in ((about, about, about), (None, about, about), (about, None, None), (about, None, about, about),
                      (about, None, (("ease", 1),) + about[:2]), (about, False, about), (about, (), about)):
            self.assertIs(is_unfelt_witness(TWICE, ("ease", 1), thing), False)

    def test_a_rule_without_which_it_does_not_stand(self):
        with self.assertRaises(Loose) as caught:
            laid_without(FRAME, ("hard", 0))
        self.assertIn(caught.exception.lot, ((1, 2), (2,)))
        with self.assertRaises(Afloat) as caught:
            laid_without(BOXES, ("ease", 0))
        self.assertEqual(caught.exception.lot, (1, 2))
        fast = (2, ((0, 1, (2, 1)), (1, 0, (-2, 1))), ())
        with self.assertRaises(Afloat):
            laid_without(fast, ("hard", 1))
        self.assertEqual(felt_marks(fast), (("hard", 0), ("hard", 1)))
        self.assertEqual(felt_marks(LONE), ())


class Lean(unittest.TestCase):
    def test_rule_by_rule(self):
        seen = set()
        for sheet in standing_sheets(451):
            layout, left = fairest(sheet), plainly.marks(sheet)
            for mark in reversed(plainly.marks(sheet)):
                fewer = [own for own in left if own != mark]
                if plainly.fairest_by(self.of_these(sheet, fewer), layout):
                    left = fewer
            own = self.of_these(sheet, left)
            seen.add(len(left) == len(plainly.marks(sheet)))
            for deed, told in ((lean_marks, tuple(sorted(left))), (lean_sheet, own)):
                self.assertEqual(deed(sheet), told)
                self.assertEqual(deed(sheet=listed(sheet)), told)
            self.assertEqual(fairest(own), layout)
            self.assertEqual(len(felt_marks(own)), len(left))
            self.assertEqual(lean_sheet(own), own)
        self.assertEqual(seen, {True, False})

    def of_these(self, sheet, some):
        return (sheet[0], tuple(rule for k, rule in enumerate(sheet[1]) if ("hard", k) in some),
                tuple(rule for k, rule in enumerate(sheet[2]) if ("ease", k) in some))

    def test_edges(self):
        self.assertEqual((lean_marks(LONE), lean_sheet(LONE)), ((), LONE))
        # Of equal RULES, each not felt by itself, the first one stays.
        many = (3, FRAME[1] * 3, FRAME[2] * 2)
        self.assertEqual(felt_marks(many), ())
        self.assertEqual(lean_marks(many), (("ease", 0), ("ease", 1), ("hard", 0)))
        self.assertEqual(lean_sheet(many), FRAME)
        self.assertEqual(lean_sheet((3, ((2, 0, (-7, 1)),) + FRAME[1], FRAME[2])), FRAME)


class Errors(unittest.TestCase):
    def test_no_room_first_of_all(self):
        calls = [lambda: idle_hard(SHUT)]
        for k in (0, 2, 3, -1, 99):
            calls += [lambda k=k: bypass(SHUT, k), lambda k=k: slip(SHUT, k), lambda k=k: is_bypass(SHUT, k, None),
                      lambda k=k: is_slip(SHUT, k, None)]
        for call in calls:
            with self.assertRaises(NoRoom) as caught:
                call()
            self.assertIn(caught.exception.ring, ((("hard", 0), ("hard", 1)), (("hard", 1), ("hard", 0))))

    def test_the_sheet_ahead_of_its_marks(self):
        for sheet, kind in ((LOOSE, Loose), (FLOATING, Afloat), (SHUT, NoRoom)):
            calls = [lambda: felt_marks(sheet), lambda: lean_marks(sheet), lambda: lean_sheet(sheet)]
            for mark in (("ease", 0), ("hard", 9), ("ease", -1)):
                calls += [lambda mark=mark: laid_without(sheet, mark), lambda mark=mark: is_felt(sheet, mark),
                          lambda mark=mark: unfelt_witness(sheet, mark),
                          lambda mark=mark: is_unfelt_witness(sheet, mark, None)]
            for call in calls:
                with self.assertRaises(kind):
                    call()

    def test_no_place(self):
        for sheet in (FRAME, LOOSE, FLOATING, BOXES):
            for k in (len(sheet[1]), -1, 77):
                for call in (lambda: bypass(sheet, k), lambda: slip(sheet, k), lambda: is_bypass(sheet, k, ()),
                             lambda: is_slip(sheet, k, None)):
                    with self.assertRaises(NoPlace) as caught:
                        call()
                    self.assertEqual(vars(caught.exception), {"place": k})
        for mark in (("hard", 1), ("hard", -1), ("ease", 2), ("ease", 10 ** 9), ["ease", 2]):
            for call in (lambda: laid_without(FRAME, mark), lambda: is_felt(FRAME, mark),
                         lambda: unfelt_witness(FRAME, mark), lambda: is_unfelt_witness(FRAME, mark, None)):
                with self.assertRaises(NoPlace) as caught:
                    call()
                self.assertEqual(vars(caught.exception), {"place": tuple(mark)})

    def test_sheets_that_do_not_stand_may_be_asked_for_idle_ones(self):
        apart = (4, ((0, 1, (1, 1)), (0, 1, (2, 1)), (2, 3, (0, 1))), ((3, 2, PLAIN),))
        self.assertIs(stands(apart), False)
        self.assertEqual(idle_hard(apart), (0,))
        self.assertEqual(bypass(apart, 0), (("hard", 1),))
        self.assertTrue(plainly.gap(slip(apart, 2), (2, 3)) < 0)

    def test_arguments_stay(self):
        sheet, mark = listed(BOXES), ["hard", 2]
        idle_hard(sheet), bypass(sheet, 2), slip(sheet, 0), is_bypass(sheet, 2, ()), is_slip(sheet, 2, ())
        laid_without(sheet, mark), is_felt(sheet, mark), felt_marks(sheet), unfelt_witness(sheet, mark)
        is_unfelt_witness(sheet, mark, ()), lean_marks(sheet), lean_sheet(sheet)
        self.assertEqual((sheet, mark), (listed(BOXES), ["hard", 2]))

    def test_each_call_comes_to_an_end_in_seconds(self):
        row, start = Row(455), time.monotonic()
        for _ in range(4):
            sheet = big_sheet(row)
            if not stands(sheet):
                continue
            for k in range(len(sheet[1])):
                (bypass if k in idle_hard(sheet) else slip)(sheet, k)
            self.assertEqual(len(lean_marks(sheet)), len(lean_sheet(sheet)[1] + lean_sheet(sheet)[2]))
            felt_marks(sheet)
        # Very many ways of hard RULES.
        many = (8, tuple((i, i + 1, (1, 1)) for i in range(7) for _ in range(2)) + ((0, 7, (8, 1)), (0, 7, (7, 1))), ())
        self.assertEqual(bypass(many, 15), (("hard", 14),))
        self.assertEqual(len(bypass((8, many[1][:14] + many[1][15:], ()), 14)), 7)
        slip(many, 14)
        self.assertLess(time.monotonic() - start, 20)


if __name__ == "__main__":
    unittest.main()
