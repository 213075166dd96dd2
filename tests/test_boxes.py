"""[2], [3], [20]: PLANS, made to SHEETS SAYING by SAYING once more, and laid from both ends."""

import time
import unittest
from fractions import Fraction

import plainly
from drawn import ODD_THINGS, PLAIN, Row, bent, big_scale, drawn_plan, drawn_plans, listed, pair

from likecuts.boxes import (boxes_of, eases_of, edge_of, is_plan, laid, marks_by, saying_of, sheet_of, thing_of, turned)
from likecuts.errors import Afloat, Loose, NoPlace, NoRoom
from likecuts.sheets import is_sheet
from likecuts.towers import fairest

FRONT, BACK = ("front", 0), ("back", 0)
PAGE = (("just", FRONT, BACK, (6, 1)), ("inside", 1, 0, PLAIN))
ALONE = (2, PAGE + (("just", ("front", 1), ("back", 1), (2, 1)),))
BARE = (1, ())
SIZES = {"least": 4, "just": 4, "room": 4, "wide": 3, "row": 3, "pile": 3, "inside": 4}


def number_of(edge):
    return {"front": 0, "back": 1}[edge[0]] + 2 * edge[1]


def rules_said(saying):
    """The hard RULES and the counted ones of one SAYING, as the table of [20] tells them."""
    word, *told = saying
    if word in ("least", "just"):
        i, j, far = number_of(told[0]), number_of(told[1]), told[2]
        return [(i, j, far), (j, i, (-far[0], far[1]))][:1 if word == "least" else 2], []
    if word == "room":
        return [], [(number_of(told[0]), number_of(told[1]), told[2])]
    if word == "wide":
        return [], [(2 * box, 2 * box + 1, told[1]) for box in told[0]]
    if word == "row":
        return [], [(2 * one + 1, 2 * two, told[1]) for one, two in zip(told[0], told[0][1:])]
    if word == "pile":
        side = {"front": 0, "back": 1}[told[0]]
        first, found = 2 * told[1][0] + side, []
        for box in told[1][1:]:
            found += [(first, 2 * box + side, (0, 1)), (2 * box + side, first, (0, 1))]
        return found, []
    box, other, scale = told
    return [], [(2 * other, 2 * box, scale), (2 * box + 1, 2 * other + 1, scale)]


def sheet_said(plan):
    rows = [rules_said(saying) for saying in plan[1]]
    return (2 * plan[0], tuple(rule for hard, _ in rows for rule in hard),
            tuple(rule for _, counted in rows for rule in counted))


def marks_said(plan):
    found, hard, counted = [], 0, 0
    for saying in plan[1]:
        one, two = rules_said(saying)
        found.append(tuple([("hard", hard + k) for k in range(len(one))]
                           + [("ease", counted + k) for k in range(len(two))]))
        hard, counted = hard + len(one), counted + len(two)
    return found


def is_saying(boxes, value):
    """Whether a value, in which lists and bools may stand, is a SAYING."""
    if not isinstance(value, tuple) or not value or not isinstance(value[0], str) or value[0] not in SIZES:
        return False
    word, *told = value
    if len(value) != SIZES[word]:
        return False
    if word in ("least", "just", "room"):
        edges, last = told[:2], told[2]
        good = all(is_edge(boxes, own) for own in edges) and edges[0] != edges[1]
        return good and (is_scale(last) if word == "room" else is_pair(last))
    if word == "inside":
        return all(is_box(boxes, own) for own in told[:2]) and told[0] != told[1] and is_scale(told[2])
    row = told[1] if word == "pile" else told[0]
    good = isinstance(row, tuple) and len(row) > 0 and all(is_box(boxes, own) for own in row)
    if not good or any(one == two for at, one in enumerate(row) for two in row[:at]):
        return False
    return told[0] in ("front", "back") if word == "pile" else is_scale(told[1])


def is_box(boxes, value):
    return value.__class__ is int and 0 <= value < boxes


def is_edge(boxes, value):
    return isinstance(value, tuple) and len(value) == 2 and value[0] in ("front", "back") and is_box(boxes, value[1])


def is_pair(value):
    return (isinstance(value, tuple) and len(value) == 2 and all(own.__class__ is int for own in value)
            and value[1] > 0 and pair(Fraction(*value)) == value)


def is_scale(value):
    if not isinstance(value, tuple) or len(value) < 2:
        return False
    if not all(isinstance(own, tuple) and len(own) == 2 and is_pair(own[0]) and is_pair(own[1]) for own in value):
        return False
    return all(Fraction(*low[at]) < Fraction(*high[at]) for low, high in zip(value, value[1:]) for at in (0, 1))


def is_right(value):
    """Whether a value is a PLAN."""
    return (isinstance(value, tuple) and len(value) == 2 and value[0].__class__ is int and value[0] >= 1
            and isinstance(value[1], tuple) and all(is_saying(value[0], own) for own in value[1]))


def standing_plans(seed, many=110):
    some = [BARE, ALONE] + drawn_plans(seed, many, 2) + drawn_plans(seed + 1, many // 3, 3)
    return [plan for plan in some if plainly.does_stand(sheet_said(plan))]


class Plans(unittest.TestCase):
    def test_is_plan(self):
        row, seen = Row(481), set()
        for plan in [BARE, ALONE] + drawn_plans(482, 150, 4):
            self.assertTrue(is_right(plan))
            self.assertIs(is_plan(plan), True)
            self.assertIs(is_plan(thing=plan), True)
            self.assertIs(is_plan(list(plan)), False)
            self.assertIs(is_plan((plan[0], list(plan[1]))), False)
            for _ in range(6):
                thing = bent(row, plan)
                seen.add(is_right(thing))
                self.assertIs(is_plan(thing), is_right(thing), thing)
            for saying in plan[1]:
                for _ in range(3):
                    own = bent(row, saying)
                    seen.add((saying[0], is_saying(plan[0], own)))
                    self.assertIs(is_plan((plan[0], (own,))), is_saying(plan[0], own), (plan[0], own))
        self.assertEqual(len(seen), 2 + 2 * len(SIZES))

    def test_no_other_thing(self):
        for thing in ODD_THINGS:
            self.assertIs(is_plan(thing), False)
            self.assertIs(is_plan((2, thing)), thing == () and isinstance(thing, tuple))
            self.assertIs(is_plan((2, (thing,))), False)
            self.assertIs(is_plan((thing, ())), thing.__class__ is int and thing > 0)
            for word in SIZES:
                self.assertIs(is_plan((2, ((word, thing, thing, thing)[:SIZES[word]],))), False)
        wrong = (("wide", (0, 0), PLAIN), ("wide", (), PLAIN), ("row", (2,), PLAIN), ("row", (0,), PLAIN[:1]),
                 ("wide", 0, PLAIN), ("wide", (0,), (1, 1)), ("least", FRONT, FRONT, (1, 1)), ("least", FRONT, BACK, 1),
                 ("least", FRONT, BACK, (2, 2)), ("least", FRONT, ("back", 2), (1, 1)), ("room", FRONT, BACK, (1, 1)),
                 ("just", FRONT, ["back", 0], (1, 1)), ("just", ("top", 0), BACK, (1, 1)), ("just", FRONT, BACK, PLAIN),
                 ("inside", 0, 0, PLAIN), ("inside", 0, 2, PLAIN), ("inside", FRONT, BACK, PLAIN), ("pile", "top", (0,)),
                 ("pile", "front", ()), ("pile", "front", 0), ("pile", FRONT, (0, 1)), ("pile", (0, 1), "front"),
                 ("pile", "front", (True,)), ("inside", True, 0, PLAIN), ("least", ("front", False), BACK, (1, 1)),
                 ("least", FRONT, BACK), ("least", FRONT, BACK, (1, 1), ()), ("wide", (0,)), ("Wide", (0,), PLAIN),
                 ["wide", (0,), PLAIN], ("wide", [0], PLAIN), ("wide", (0,), list(PLAIN)), "wide", (), None)
        for saying in wrong:
            self.assertIs(is_plan((2, (saying,))), False, saying)
        for boxes in (0, -1, True, None, "2", (2,)):
            self.assertIs(is_plan((boxes, ())), False)
        # Greater than the bounds.
        self.assertIs(is_plan((10 ** 40, (("inside", 10 ** 40 - 1, 7, PLAIN),) * 300)), True)
        self.assertIs(is_plan((600, (("pile", "back", tuple(range(600))),))), True)

    def test_things_and_edges(self):
        for number in range(8):
            edge = edge_of(number)
            self.assertEqual(edge, (("front", "back")[number % 2], number // 2))
            self.assertEqual(edge_of(number=number), edge)
            for own in (edge, list(edge)):
                self.assertEqual(thing_of(own), number)
            self.assertEqual(thing_of(edge=edge), number)


class Sheets(unittest.TestCase):
    def test_sheets_and_marks(self):
        for plan in [BARE, ALONE] + drawn_plans(484, 150, 4):
            own, rows = sheet_said(plan), marks_said(plan)
            self.assertEqual(sheet_of(plan), own)
            self.assertEqual(sheet_of(plan=listed(plan)), own)
            self.assertTrue(is_sheet(own))
            self.assertEqual(sorted(mark for marks in rows for mark in marks), sorted(plainly.marks(own)))
            for number, marks in enumerate(rows):
                self.assertEqual(marks_by(plan, number), marks)
                self.assertEqual(marks_by(number=number, plan=listed(plan)), marks)
                for mark in marks:
                    self.assertEqual(saying_of(plan, mark), number)
                    self.assertEqual(saying_of(mark=list(mark), plan=listed(plan)), number)
            self.no_place(plan, own, rows)

    def no_place(self, plan, own, rows):
        for number in (len(rows), -1, 99):
            with self.assertRaises(NoPlace) as caught:
                marks_by(plan, number)
            self.assertEqual(vars(caught.exception), {"place": number})
        for word, many in (("hard", len(own[1])), ("ease", len(own[2]))):
            for number in (many, -1, 10 ** 9):
                for mark in ((word, number), [word, number]):
                    with self.assertRaises(NoPlace) as caught:
                        saying_of(plan, mark)
                    self.assertEqual(vars(caught.exception), {"place": number})

    def test_edges(self):
        self.assertEqual(sheet_of(BARE), (2, (), ()))
        # "pile" and "row" of one box make no RULES; "wide" of alike boxes one each.
        plan = (3, (("pile", "back", (2,)), ("row", (1,), PLAIN), ("wide", (0, 2, 1), PLAIN), ("pile", "back", (2, 0, 1))))
        self.assertEqual([marks_by(plan, number) for number in range(4)],
                         [(), (), (("ease", 0), ("ease", 1), ("ease", 2)),
                          (("hard", 0), ("hard", 1), ("hard", 2), ("hard", 3))])
        self.assertEqual(sheet_of(plan)[1], ((5, 1, (0, 1)), (1, 5, (0, 1)), (5, 3, (0, 1)), (3, 5, (0, 1))))
        self.assertEqual([rule[:2] for rule in sheet_of(plan)[2]], [(0, 1), (4, 5), (2, 3)])
        plan = (2, (("inside", 1, 0, PLAIN), ("row", (1, 0), PLAIN)))
        self.assertEqual([rule[:2] for rule in sheet_of(plan)[2]], [(0, 2), (3, 1), (3, 0)])
        self.assertEqual(sheet_of((1, (("just", BACK, FRONT, (1, 2)), ("least", BACK, FRONT, (-1, 3)))))[1],
                         ((1, 0, (1, 2)), (0, 1, (-1, 2)), (1, 0, (-1, 3))))


class Laid(unittest.TestCase):
    def test_laid(self):
        seen = set()
        for plan in standing_plans(491):
            sheet = sheet_said(plan)
            layout = fairest(sheet)
            self.assertTrue(plainly.is_fairest(sheet, layout))
            own = tuple((layout[2 * box], layout[2 * box + 1]) for box in range(plan[0]))
            self.assertEqual(laid(plan), own)
            self.assertEqual(laid(plan=listed(plan)), own)
            self.assertEqual(boxes_of(layout), own)
            self.assertEqual(boxes_of(layout=listed(layout)), own)
            told = plainly.eases(sheet, layout)
            rows = tuple(tuple(pair(told[k]) for word, k in marks if word == "ease") for marks in marks_said(plan))
            self.assertEqual(eases_of(plan), rows)
            self.assertEqual(eases_of(plan=listed(plan)), rows)
            seen.update(saying[0] for saying in plan[1])
        self.assertEqual(seen, set(SIZES))

    def test_what_does_not_stand(self):
        seen = set()
        for plan in [BARE] + drawn_plans(493, 150, 2):
            sheet = sheet_said(plan)
            if plainly.does_stand(sheet):
                continue
            for deed in (laid, eases_of):
                with self.assertRaises((NoRoom, Loose, Afloat)) as caught:
                    deed(plan)
                seen.add(caught.exception.__class__)
                self.assertTrue(plainly.tells_why(sheet, caught.exception))
        self.assertEqual(seen, {NoRoom, Loose, Afloat})
        with self.assertRaises(Afloat) as caught:
            laid(BARE)
        self.assertEqual(caught.exception.lot, (1,))

    def test_the_page_alone(self):
        self.assertEqual(laid((1, (("just", FRONT, BACK, (7, 2)),))), (((0, 1), (7, 2)),))
        self.assertEqual(eases_of((1, (("just", FRONT, BACK, (7, 2)),))), ((),))


class Turned(unittest.TestCase):
    def turn(self, edge):
        return ({"front": "back", "back": "front"}[edge[0]], edge[1])

    def turned_by_hand(self, saying):
        word, *told = saying
        if word in ("least", "just", "room"):
            return (word, self.turn(told[1]), self.turn(told[0]), told[2])
        if word == "row":
            return (word, tuple(reversed(told[0])), told[1])
        return (word, {"front": "back", "back": "front"}[told[0]], told[1]) if word == "pile" else saying

    def test_turned(self):
        for plan in [BARE, ALONE] + drawn_plans(495, 120, 4):
            own = (plan[0], tuple(self.turned_by_hand(saying) for saying in plan[1]))
            self.assertEqual(turned(plan), own)
            self.assertEqual(turned(plan=listed(plan)), own)
            self.assertEqual(turned(own), plan)
            self.assertIs(is_plan(own), True)

    def test_laid_the_other_way_about(self):
        for plan in standing_plans(497):
            rows = [[Fraction(*place) for place in box] for box in laid(plan)]
            last = rows[0][1]
            # Told from the page's back, which is now its front.
            own = tuple((pair(last - back), pair(last - front)) for front, back in rows)
            self.assertEqual(laid(turned(plan)), own)
            told, other = eases_of(plan), eases_of(turned(plan))
            for saying, one, two in zip(plan[1], told, other):
                # A "row" is told from its other end, and so is what is "inside".
                self.assertEqual(two, one[::-1] if saying[0] in ("row", "inside") else one)

    def test_a_box_that_lies_just_so_moves_no_other(self):
        row, seen = Row(498), 0
        for plan in standing_plans(499, 60):
            boxes, sayings = plan
            for _ in range(3):
                more = list(sayings)
                for side in ("front", "back"):
                    edges = [(side, boxes), (row.one_of(("front", "back")), row.below(boxes))]
                    edges = edges if row.below(2) else edges[::-1]
                    more.insert(row.below(len(more) + 1), ("just", edges[0], edges[1], row.fraction(6)))
                own = laid((boxes + 1, tuple(more)))
                self.assertEqual(own[:boxes], laid(plan))
                seen += 1
        self.assertGreater(seen, 60)


class Errors(unittest.TestCase):
    def test_arguments_stay(self):
        plan, mark = listed(ALONE), ["ease", 1]
        sheet_of(plan), marks_by(plan, 1), saying_of(plan, mark), laid(plan), eases_of(plan), turned(plan)
        self.assertEqual((plan, mark), (listed(ALONE), ["ease", 1]))

    def test_each_call_comes_to_an_end_in_seconds(self):
        row, start = Row(500), time.monotonic()
        for _ in range(30):
            scale, plan = big_scale(row), drawn_plan(row, 4)
            page = (("just", FRONT, BACK, (1000, 1)),)
            within = tuple(("inside", box, 0, scale) for box in (1, 2, 3))
            own = (4, page + within + (("wide", (1, 2, 3), scale), ("row", (1, 2, 3), scale)) + plan[1][:1])
            try:
                self.assertEqual(len(laid(own)), 4)
            except NoRoom:
                self.assertTrue(plainly.without_room(sheet_said(own)))
            self.assertEqual(len(turned(own)[1]), len(own[1]))
        self.assertLess(time.monotonic() - start, 20)


if __name__ == "__main__":
    unittest.main()
