"""[2], [3], [6]: SHEETS, against all RINGS, all CUTS and all ways."""

import unittest
from fractions import Fraction

import plainly
from drawn import ODD_THINGS, PLAIN, Row, drawn_round_sheets, drawn_sheets, listed, pair

from likecuts.errors import Afloat, CanNot, Loose, NoPlace, NoRoom, TooMuch
from likecuts.sheets import (chain, hard_gap, hung_lots, is_chain, is_loose_lot, is_no_room, is_ring, is_sheet,
                             loose_lot, marks_of, no_room, ring_far, rings, rule_of, spans, standing, stands)

FRAME = (3, ((2, 0, (-4, 1)),), ((0, 1, PLAIN), (1, 2, PLAIN)))
TIGHT = (2, ((0, 1, (2, 1)), (1, 0, (-1, 1))), ())
LONE = (1, (), ())
# 0 to 3 in two ways that come to 5, one of three marks, and one of two that is told twice.
WAYS = (4, ((0, 1, (2, 1)), (1, 3, (3, 1)), (0, 2, (1, 1)), (2, 1, (0, 1)), (0, 2, (2, 1)), (2, 3, (3, 1)),
            (0, 3, (4, 1)), (2, 3, (3, 1))), ())
FULL = (8, tuple((k, (k + 1) % 8, (-k, 1)) for k in range(8)), tuple((k, (k + 3) % 8, PLAIN) for k in range(8))
        + tuple((k, k + 4, PLAIN) for k in range(4)))


def many_sheets():
    """SHEETS of one to five THINGS, those that stand and those that do not."""
    return [LONE, FRAME, TIGHT, WAYS] + drawn_sheets(61, 260, 4, 8) + drawn_round_sheets(62, 200)


def multiple(times):
    """A SHEET of as many THINGS as times has numbers, around which go so many hard RULES from each to the next."""
    many = len(times)
    return (many, tuple((k, (k + 1) % many, (0, 1)) for k in range(many) for _ in range(times[k])), ())


class IsSheet(unittest.TestCase):
    def test_sheets(self):
        for sheet in many_sheets() + [FULL]:
            self.assertIs(is_sheet(sheet), True, sheet)
        self.assertIs(is_sheet(thing=(10 ** 50, ((10 ** 50 - 1, 0, (10 ** 60, 7)),), ())), True)
        self.assertIs(is_sheet(multiple((200,) * 9)), True)

    def test_others(self):
        others = (
            (0, (), ()), (-1, (), ()), (True, (), ()), (None, (), ()), ((1,), (), ()), ("1", (), ()), (1, ()),
            (1, (), (), ()), (1, [], ()), (1, (), []), [1, (), ()], (1, None, ()), (1, (), 0), (1, "", ""),
            (1, ((0, 0, (1, 1)),), ()), (2, ((0, 2, (1, 1)),), ()), (2, ((-1, 0, (1, 1)),), ()),
            (2, ((0, 1, (2, 2)),), ()), (2, ((0, 1, 1),), ()), (2, ((0, 1),), ()), (2, ((0, 1, (1, 1), 0),), ()),
            (2, ([0, 1, (1, 1)],), ()), (2, ((0, 1, [1, 1]),), ()), (2, ((0, True, (1, 1)),), ()),
            (2, ((False, 1, (1, 1)),), ()), (2, ((0, 1, PLAIN),), ()), (2, (), ((0, 1, (1, 1)),)),
            (2, (), ((1, 1, PLAIN),)), (2, (), ((0, 1, PLAIN[:1]),)), (2, (), ((0, 1, PLAIN[::-1]),)),
            (2, (), ((0, 1, list(PLAIN)),)), (2, (), ((0, 2, PLAIN),)), (2, (), (None,)), (2, (("0", 1, (1, 1)),), ()),
            listed(FRAME), (3, FRAME[1], listed(FRAME[2])), (3, listed(FRAME[1]), FRAME[2]),
        )
        for thing in others + ODD_THINGS:
            self.assertIs(is_sheet(thing), False, repr(thing)[:90])


class Marks(unittest.TestCase):
    def test_marks_and_rules(self):
        for sheet in many_sheets():
            self.assertEqual(list(marks_of(sheet)), plainly.marks(sheet))
            self.assertEqual(marks_of(sheet=listed(sheet)), marks_of(sheet))
            for mark in marks_of(sheet):
                self.assertEqual(rule_of(sheet, mark), plainly.rule(sheet, mark))
                self.assertEqual(rule_of(sheet=listed(sheet), mark=list(mark)), plainly.rule(sheet, mark))
        self.assertEqual(marks_of(FRAME), (("hard", 0), ("ease", 0), ("ease", 1)))
        self.assertEqual(marks_of(LONE), ())

    def test_no_such_rule(self):
        for sheet, mark in ((FRAME, ("hard", 1)), (FRAME, ("ease", 2)), (FRAME, ("ease", -1)), (LONE, ("hard", 0)),
                            (TIGHT, ("ease", 0)), (FRAME, ("hard", 10 ** 9)), (FRAME, ["hard", 1])):
            with self.assertRaises(NoPlace) as caught:
                rule_of(sheet, mark)
            self.assertEqual(vars(caught.exception), {"place": tuple(mark)})
            self.assertIs(caught.exception.place.__class__, tuple)


class Rings(unittest.TestCase):
    def test_rings(self):
        for sheet in many_sheets():
            told = plainly.all_rings(sheet)
            self.assertEqual(rings(sheet), told)
            self.assertEqual(rings(sheet=listed(sheet)), told)
            for ring in told[:12]:
                self.assertEqual(ring_far(sheet, ring), pair(plainly.hard_sum(sheet, ring)))
                self.assertEqual(ring_far(sheet=listed(sheet), ring=listed(ring)), ring_far(sheet, ring))

    def test_is_ring(self):
        row = Row(63)
        for sheet in many_sheets():
            told = plainly.all_rings(sheet)
            every = {ring[at:] + ring[:at] for ring in told for at in range(len(ring))}
            for ring in sorted(every)[:30]:
                self.assertIs(is_ring(sheet, ring), True)
                self.assertIs(is_ring(listed(sheet), thing=ring), True)
                for other in (ring[1:], ring + ring, ring + ring[:1], ring[::-1], listed(ring), list(ring),
                              (list(ring[0]),) + ring[1:], ring[:-1] + (("hard", True),), ring + (("hard", 99),)):
                    self.assertIs(is_ring(sheet, other), other in every if isinstance(other, tuple)
                                  and all(isinstance(own, tuple) and own[1] is not True for own in other) else False)
            marks = plainly.marks(sheet)
            for _ in range(20 if marks else 0):
                other = tuple(row.one_of(marks) for _ in range(row.between(1, 4)))
                self.assertIs(is_ring(sheet, other), other in every)
        for thing in ODD_THINGS:
            for sheet in (FRAME, LONE, TIGHT):
                self.assertIs(is_ring(sheet, thing), False)

    def test_a_thing_twice(self):
        eight = (3, ((0, 1, (1, 1)), (1, 0, (-1, 1)), (0, 2, (0, 1)), (2, 0, (0, 1))), ())
        self.assertIs(is_ring(eight, (("hard", 0), ("hard", 1))), True)
        self.assertIs(is_ring(eight, (("hard", 0), ("hard", 1), ("hard", 2), ("hard", 3))), False)

    def test_too_much(self):
        just = multiple((5, 5, 5, 4, 4))
        self.assertEqual(len(rings(just)), 2000)
        more = (5, just[1] + ((1, 0, (0, 1)),), ((4, 3, PLAIN),))
        for sheet in (more, multiple((5, 5, 5, 4, 5)), multiple((3, 3, 3, 3, 3, 3, 3)), multiple((30, 67)),
                      multiple((3, 667))):
            with self.assertRaises(TooMuch) as caught:
                rings(sheet)
            self.assertEqual(vars(caught.exception), {})
        self.assertEqual(len(rings(multiple((20, 100)))), 2000)

    def test_each_list_is_new(self):
        first = rings(FRAME)
        first.append(None)
        self.assertEqual(rings(FRAME), [(("ease", 0), ("ease", 1), ("hard", 0))])


class Room(unittest.TestCase):
    def test_no_room(self):
        seen = set()
        for sheet in many_sheets():
            bad = plainly.without_room(sheet)
            seen.add(bool(bad))
            ring = no_room(sheet)
            self.assertEqual(no_room(sheet=listed(sheet)), ring)
            if not bad:
                self.assertIsNone(ring)
            else:
                least = ring.index(min(ring))
                self.assertIn(ring[least:] + ring[:least], bad)
            for other in plainly.all_rings(sheet)[:40]:
                self.assertIs(is_no_room(sheet, other), other in bad)
                self.assertIs(is_no_room(listed(sheet), thing=other[1:] + other[:1]), other in bad)
                self.assertIs(is_no_room(sheet, list(other)), False)
        self.assertEqual(seen, {True, False})

    def test_no_other_thing(self):
        for thing in ODD_THINGS:
            self.assertIs(is_no_room(TIGHT, thing), False)
            self.assertIs(is_loose_lot((2, (), ((0, 1, PLAIN),)), thing), thing == (1,) and thing[0] is not True)

    def test_of_0_is_room_enough(self):
        fast = (2, ((0, 1, (2, 1)), (1, 0, (-2, 1))), ())
        self.assertIsNone(no_room(fast))
        self.assertIs(is_no_room(fast, (("hard", 0), ("hard", 1))), False)
        little = (2, ((0, 1, (2, 1)), (1, 0, (-23, 12))), ())
        self.assertIs(is_no_room(little, no_room(little)), True)


class LooseLots(unittest.TestCase):
    def test_loose_lots(self):
        seen = set()
        for sheet in many_sheets():
            loose = plainly.loose_lots(sheet)
            seen.add(bool(loose))
            if loose:
                self.assertIn(loose_lot(sheet), loose)
            else:
                self.assertIsNone(loose_lot(sheet))
            self.assertEqual(loose_lot(sheet=listed(sheet)), loose_lot(sheet))
            for cut in plainly.all_cuts(sheet) + [(), tuple(range(sheet[0]))]:
                self.assertIs(is_loose_lot(sheet, cut), cut in loose)
                self.assertIs(is_loose_lot(listed(sheet), thing=cut), cut in loose)
                self.assertIs(is_loose_lot(sheet, list(cut)), False)
                self.assertIs(is_loose_lot(sheet, cut + cut[-1:]), False)
                self.assertIs(is_loose_lot(sheet, cut[::-1]), cut in loose and len(cut) < 2)
                self.assertIs(is_loose_lot(sheet, cut + (sheet[0],)), False)
                self.assertIs(is_loose_lot(sheet, (-1,) + cut), False)
        self.assertEqual(seen, {True, False})

    def test_a_counted_rule_on_no_ring(self):
        for sheet in many_sheets():
            on_rings = {mark for ring in plainly.all_rings(sheet) for mark in ring}
            entered = {("ease", k) for cut in plainly.loose_lots(sheet) for k, own in enumerate(sheet[2])
                       if plainly.enters(own, cut)}
            self.assertEqual({("ease", k) for k in range(len(sheet[2]))} - on_rings, entered)


class Chains(unittest.TestCase):
    def test_chains(self):
        for sheet in many_sheets():
            if plainly.without_room(sheet):
                continue
            for i in range(sheet[0]):
                for j in range(sheet[0]):
                    self.one_pair(sheet, i, j)

    def one_pair(self, sheet, i, j):
        ways = plainly.all_ways(sheet, i, j)
        if not ways:
            self.assertIsNone(hard_gap(sheet, i, j))
            with self.assertRaises(CanNot):
                chain(sheet, i, j)
            self.assertIs(is_chain(sheet, i, j, ()), False)
            return
        best = max(plainly.hard_sum(sheet, way) for way in ways)
        chains = [way for way in ways if plainly.hard_sum(sheet, way) == best]
        self.assertEqual(hard_gap(sheet, i, j), pair(best))
        self.assertEqual(hard_gap(j=j, i=i, sheet=listed(sheet)), pair(best))
        self.assertEqual(chain(sheet, i, j), min(chains, key=lambda way: (len(way), way)))
        self.assertEqual(chain(listed(sheet), i=i, j=j), chain(sheet, i, j))
        for way in ways[:20]:
            self.assertIs(is_chain(sheet, i, j, way), way in chains)
            self.assertIs(is_chain(listed(sheet), i, j, thing=way), way in chains)
            self.assertIs(is_chain(sheet, i, j, list(way)), False)
            if i != j:
                self.assertIs(is_chain(sheet, i, i, way), False)
                self.assertIs(is_chain(sheet, j, i, way), False)
        for ring in plainly.hard_rings(sheet)[:4]:
            self.assertIs(is_chain(sheet, i, j, ring), False)

    def test_fewest_marks_then_least(self):
        self.assertEqual(hard_gap(WAYS, 0, 3), (5, 1))
        self.assertEqual(chain(WAYS, 0, 3), (("hard", 0), ("hard", 1)))
        later = (4, WAYS[1][2:], ())
        self.assertEqual(chain(later, 0, 3), (("hard", 2), ("hard", 3)))
        self.assertIs(is_chain(later, 0, 3, (("hard", 2), ("hard", 5))), True)
        ten = (3, tuple((0, 1, (1, 1)) for _ in range(9)) + ((0, 2, (0, 1)), (0, 1, (2, 1)), (0, 1, (2, 1))), ())
        self.assertEqual(chain(ten, 0, 1), (("hard", 10),))

    def test_counted_rules_are_no_ways(self):
        self.assertIsNone(hard_gap(FRAME, 0, 1))
        self.assertIs(is_chain(FRAME, 0, 1, (("ease", 0),)), False)
        self.assertIs(is_chain(FRAME, 2, 0, (("hard", 0),)), True)
        beside = (2, ((0, 1, (0, 1)),), ((0, 1, PLAIN),))
        self.assertIs(is_chain(beside, 0, 1, (("ease", 0),)), False)
        self.assertIs(is_chain(beside, 0, 1, (("hard", 0),)), True)
        self.assertEqual((chain(FRAME, 1, 1), hard_gap(FRAME, 1, 1)), ((), (0, 1)))
        for thing in ODD_THINGS:
            self.assertIs(is_chain(FRAME, 2, 0, thing), False)
            self.assertIs(is_chain(FRAME, 1, 1, thing), thing == () and isinstance(thing, tuple))

    def test_errors_and_their_order(self):
        for i, j, place in ((3, 0, 3), (0, 3, 3), (-1, 7, -1), (7, -1, 7), (2, -1, -1)):
            for deed in (hard_gap, chain):
                for sheet in (FRAME, (3, TIGHT[1], ())):
                    with self.assertRaises(NoPlace) as caught:
                        deed(sheet, i, j)
                    self.assertEqual(vars(caught.exception), {"place": place})
            with self.assertRaises(NoPlace) as caught:
                is_chain((3, TIGHT[1], ()), i, j, None)
            self.assertEqual(caught.exception.place, place)
        unroomy = (3, TIGHT[1], ())
        calls = [lambda: hard_gap(unroomy, 0, 2), lambda: chain(unroomy, 0, 2), lambda: chain(unroomy, 0, 0),
                 lambda: is_chain(unroomy, 0, 0, ()), lambda: is_chain(unroomy, 0, 1, None), lambda: spans(unroomy),
                 lambda: hung_lots(unroomy), lambda: standing(unroomy), lambda: hard_gap(listed(unroomy), 2, 2)]
        for call in calls:
            with self.assertRaises(NoRoom) as caught:
                call()
            self.assertEqual(list(vars(caught.exception)), ["ring"])
            self.assertIs(is_no_room(unroomy, caught.exception.ring), True)
        with self.assertRaises(CanNot) as caught:
            chain(FRAME, 0, 2)
        self.assertEqual(vars(caught.exception), {})


class Spans(unittest.TestCase):
    def test_spans(self):
        for sheet in many_sheets():
            if plainly.without_room(sheet):
                continue
            told = []
            for j in range(sheet[0]):
                ahead = [plainly.hard_sum(sheet, way) for way in plainly.all_ways(sheet, 0, j)]
                back = [-plainly.hard_sum(sheet, way) for way in plainly.all_ways(sheet, j, 0)]
                told.append((pair(max(ahead)) if ahead else None, pair(min(back)) if back else None))
            self.assertEqual(spans(sheet), tuple(told))
            self.assertEqual(spans(sheet=listed(sheet)), tuple(told))
        self.assertEqual(spans(LONE), (((0, 1), (0, 1)),))

    def test_least_places_are_places(self):
        for sheet in drawn_round_sheets(64, 60):
            self.assertTrue(plainly.keeps(sheet, tuple((0, 1) for _ in range(sheet[0]))) or sheet[1])
            if all(low is not None for low, _ in spans(sheet)):
                self.assertTrue(plainly.keeps(sheet, tuple(low for low, _ in spans(sheet))))


class Standing(unittest.TestCase):
    def test_hung_lots(self):
        for sheet in many_sheets():
            if not plainly.without_room(sheet):
                self.assertEqual(hung_lots(sheet), plainly.hung(sheet))
                self.assertEqual(hung_lots(sheet=listed(sheet)), plainly.hung(sheet))

    def test_tight_is_not_fast(self):
        # Told one behind the other, but around no RING.
        row = (4, ((0, 1, (1, 1)), (1, 2, (1, 1)), (2, 0, (-3, 1))), ((0, 3, PLAIN), (3, 0, PLAIN)))
        self.assertEqual(hung_lots(row), ((0, 3), (1,), (2,)))
        mixed = (3, ((0, 1, (0, 1)), (1, 2, (0, 1))), ((2, 0, PLAIN), (0, 2, PLAIN)))
        self.assertEqual(hung_lots(mixed), ((0, 2), (1,)))

    def test_stands_and_standing(self):
        seen = {}
        for sheet in many_sheets():
            does = plainly.does_stand(sheet)
            self.assertIs(stands(sheet), does)
            self.assertIs(stands(sheet=listed(sheet)), does)
            if does:
                self.assertEqual(standing(sheet), sheet)
                self.assertEqual(standing(sheet=listed(sheet)), sheet)
                seen[True] = True
                continue
            with self.assertRaises((NoRoom, Loose, Afloat)) as caught:
                standing(listed(sheet))
            seen[caught.exception.__class__] = True
            self.assertTrue(plainly.tells_why(sheet, caught.exception))
            if plainly.without_room(sheet):
                self.assertTrue(is_no_room(sheet, caught.exception.ring))
        self.assertEqual(len(seen), 4)

    def test_edges(self):
        self.assertIs(stands(LONE), True)
        self.assertEqual(standing([1, [], []]), LONE)
        self.assertIs(stands(TIGHT), False)
        self.assertIs(stands((2, (), ())), False)
        with self.assertRaises(Afloat) as caught:
            standing((4, ((0, 2, (0, 1)), (2, 0, (0, 1))), ()))
        self.assertEqual(vars(caught.exception), {"lot": (1, 3)})
        # All three: no room, loose, afloat; then loose and afloat.
        with self.assertRaises(NoRoom):
            standing((4, TIGHT[1], ((2, 3, PLAIN),)))
        with self.assertRaises(Loose) as caught:
            standing((4, (), ((2, 3, PLAIN),)))
        self.assertEqual(vars(caught.exception), {"lot": (3,)})

    def test_eight_things_and_twenty_rules(self):
        self.assertEqual(len(marks_of(FULL)), 20)
        self.assertEqual(rings(FULL), plainly.all_rings(FULL))
        self.assertIs(stands(FULL), True)
        self.assertEqual(hung_lots(FULL), (tuple(range(8)),))
        self.assertEqual(hard_gap(FULL, 0, 7), (-21, 1))
        self.assertEqual(spans(FULL)[1], ((0, 1), (28, 1)))


class Guarantees(unittest.TestCase):
    def test_a_rule_on_a_fast_ring_is_tight_in_all_layouts(self):
        for sheet in many_sheets():
            if plainly.without_room(sheet):
                continue
            fast = {mark for ring in plainly.hard_rings(sheet) if plainly.hard_sum(sheet, ring) == 0 for mark in ring}
            for k, (i, j, far) in enumerate(sheet[1]):
                back = hard_gap(sheet, j, i)
                most = None if back is None else -Fraction(*back)
                self.assertEqual(("hard", k) in fast, most == Fraction(*far))

    def test_arguments_stay(self):
        for sheet in many_sheets()[:60]:
            own = listed(sheet)
            marks_of(own), no_room(own), loose_lot(own), stands(own), rings(own), is_ring(own, ()), is_sheet(own)
            for ring in plainly.all_rings(sheet)[:2]:
                told = listed(ring)
                ring_far(own, told)
                self.assertEqual(told, listed(ring))
            if not plainly.without_room(sheet):
                spans(own), hung_lots(own), hard_gap(own, 0, sheet[0] - 1)
            self.assertEqual(own, listed(sheet))


if __name__ == "__main__":
    unittest.main()
