"""[2], [3], [13]: EDITS, and how THINGS move by them."""

import unittest
from fractions import Fraction

import plainly
from drawn import ODD_THINGS, PLAIN, Row, drawn_round_sheets, drawn_sheets, listed, pair

from likecuts.edits import (edited, edited_by, is_edit, most_more, movers, moves, moves_nothing, spread, undoing)
from likecuts.errors import Afloat, Loose, NoPlace, NoRoom
from likecuts.layouts import eases, fairer
from likecuts.sheets import is_sheet, marks_of, stands
from likecuts.towers import fairest

FRAME = (3, ((2, 0, (-4, 1)),), ((0, 1, PLAIN), (1, 2, PLAIN)))
LONE = (1, (), ())
BENT = (((0, 1), (0, 1)), ((2, 1), (2, 1)), ((4, 1), (3, 1)))


def many_sheets(seed, many=60):
    """SHEETS that stand and some that do not."""
    return [LONE, FRAME] + drawn_sheets(seed, many, 4) + drawn_round_sheets(seed + 1, many, 4)


def some_fars(row):
    """Far above 0, 0, below 0; some near to it, some far from it."""
    return (row.fraction(), (0, 1), (1, 7), (-1, 7), (400, 1), (-400, 1))


def drawn_rule(row, sheet, word):
    i = row.below(sheet[0])
    return (i, (i + 1 + row.below(sheet[0] - 1)) % sheet[0], row.fraction(3) if word == "hard" else row.scale())


def drawn_edit(row, sheet):
    """The next EDIT of any kind; None for a SHEET that can have none."""
    kind, marks = row.below(3), plainly.marks(sheet)
    if kind < 2 and marks:
        mark = row.one_of(marks)
        return ("more", mark, row.one_of(some_fars(row))) if kind else ("out", mark)
    if sheet[0] == 1:
        return None
    word = row.one_of(("hard", "ease"))
    many = len(sheet[1 if word == "hard" else 2])
    return ("in", (word, row.below(many + 1)), drawn_rule(row, sheet, word))


def plainly_edited(sheet, edit):
    deed, (word, k) = edit[:2]
    if deed == "more":
        return plainly.told_more(sheet, edit[1], Fraction(*edit[2]))
    if deed == "out":
        return plainly.without(sheet, edit[1])
    rules = {"hard": list(sheet[1]), "ease": list(sheet[2])}
    rules[word][k:k] = [edit[2]]
    return (sheet[0], tuple(rules["hard"]), tuple(rules["ease"]))


class Edits(unittest.TestCase):
    def test_edited(self):
        row, seen = Row(301), set()
        for sheet in many_sheets(302):
            for _ in range(6):
                edit = drawn_edit(row, sheet)
                if edit is None:
                    continue
                seen.add((edit[0], edit[1][0]))
                own = plainly_edited(sheet, edit)
                self.assertTrue(is_sheet(own))
                self.assertEqual(edited(sheet, edit), own)
                self.assertEqual(edited(edit=listed(edit), sheet=listed(sheet)), own)
                self.assertIs(is_edit(sheet, edit), True)
                self.assertIs(is_edit(thing=edit, sheet=listed(sheet)), True)
                self.assertIs(is_edit(sheet, list(edit)), False)
                self.assertIs(is_edit(sheet, listed(edit)), False)
                self.back(sheet, edit, own)
        self.assertEqual(len(seen), 6)

    def back(self, sheet, edit, own):
        undo = undoing(sheet, edit)
        self.assertIs(is_edit(own, undo), True)
        self.assertEqual(undo[1], edit[1])
        self.assertEqual(edited(own, undo), sheet)
        self.assertEqual(undoing(edit=listed(edit), sheet=listed(sheet)), undo)
        self.assertEqual(undo[0], {"more": "more", "in": "out", "out": "in"}[edit[0]])

    def test_one_behind_the_other(self):
        row, seen = Row(304), set()
        for sheet in many_sheets(305):
            edits, own = [], sheet
            for _ in range(row.below(6)):
                edit = drawn_edit(row, own)
                if edit is not None:
                    edits.append(edit)
                    own = plainly_edited(own, edit)
            seen.add(len(edits))
            self.assertEqual(edited_by(sheet, tuple(edits)), own)
            self.assertEqual(edited_by(edits=listed(tuple(edits)), sheet=listed(sheet)), own)
            self.assertEqual(edited_by(sheet, edits), own)
        self.assertTrue({0, 1, 2, 3, 4} <= seen)
        self.assertEqual(edited_by(listed(FRAME), []), FRAME)

    def test_numbers_go_on_and_back(self):
        more = edited(FRAME, ("in", ("ease", 1), (2, 1, BENT)))
        self.assertEqual(more[2], ((0, 1, PLAIN), (2, 1, BENT), (1, 2, PLAIN)))
        self.assertEqual(edited(more, ("out", ("ease", 0)))[2], more[2][1:])
        self.assertEqual(edited(FRAME, ("in", ("ease", 2), (2, 1, BENT)))[2], FRAME[2] + ((2, 1, BENT),))
        self.assertEqual(edited(FRAME, ("in", ("hard", 0), (0, 1, (3, 1))))[1], ((0, 1, (3, 1)),) + FRAME[1])
        wide = edited(FRAME, ("more", ("ease", 1), (-1, 2)))
        self.assertEqual(wide[2][1], (1, 2, (((-1, 2), (0, 1)), ((1, 2), (1, 1)))))
        # One behind the other: what counts is the SHEET behind those ahead.
        both = (("in", ("hard", 1), (0, 1, (3, 1))), ("out", ("hard", 0)), ("more", ("hard", 0), (1, 1)))
        self.assertEqual(edited_by(FRAME, both), (3, ((0, 1, (4, 1)),), FRAME[2]))

    def test_no_other_thing(self):
        fine = (("more", ("hard", 0), (1, 1)), ("out", ("ease", 1)), ("in", ("hard", 1), (0, 1, (1, 2))),
                ("in", ("ease", 2), (2, 0, BENT)), ("in", ("ease", 0), (2, 0, PLAIN)))
        for thing in fine:
            self.assertIs(is_edit(FRAME, thing), True)
        wrong = [("more", ("hard", 1), (1, 1)), ("more", ("hard", 0), (2, 2)), ("more", ("hard", 0), 1), ("more",),
                 ("more", ("hard", 0)), ("more", ("hard", 0), (1, 1), ()), ("out", ("ease", 2)), ("out", ("ease", -1)),
                 ("out", ("hard", True)), ("out", ["ease", 0]), ("out", ("ease", 0), (1, 1)), ("out", ("soft", 0)),
                 ("in", ("hard", 2), (0, 1, (1, 2))), ("in", ("hard", -1), (0, 1, (1, 2))),
                 ("in", ("hard", 0), (0, 0, (1, 2))), ("in", ("hard", 0), (0, 3, (1, 2))),
                 ("in", ("hard", 0), (0, 1, PLAIN)), ("in", ("ease", 0), (0, 1, (1, 2))), ("in", ("ease", 0)),
                 ("in", ("ease", 0), [0, 1, PLAIN]), ("in", ("ease", 0), (0, 1, PLAIN[:1])), ("in", ("ease", 3), BENT),
                 ("in", ("ease", False), (0, 1, PLAIN)), ("in", ("soft", 0), (0, 1, PLAIN)), ("over", ("hard", 0)),
                 ("in", ("hard", 0), (0, True, (1, 2))), ("in", ("hard", 0), None), (None, ("hard", 0)),
                 (["out"], ("hard", 0)), ("out", None), ("out", ()), ("in", None, None), ("more", None, None)]
        for thing in wrong + list(ODD_THINGS):
            self.assertIs(is_edit(FRAME, thing), False, thing)
            self.assertIs(is_edit(LONE, thing), False, thing)
        # Also one that is greater than the bounds.
        self.assertIs(is_edit(FRAME, ("more", ("ease", 0), (10 ** 40, 7))), True)


class Moves(unittest.TestCase):
    def test_moves(self):
        row, seen = Row(311), set()
        for sheet in many_sheets(312, 70):
            for _ in range(5):
                edit = drawn_edit(row, sheet)
                if edit is None:
                    continue
                own = plainly_edited(sheet, edit)
                if plainly.does_stand(sheet) and plainly.does_stand(own):
                    seen.add(edit[0])
                    self.moved(sheet, edit, own)
                else:
                    seen.add(self.refused(sheet, edit, own))
        self.assertEqual(seen, {"more", "out", "in", NoRoom, Loose, Afloat})

    def moved(self, sheet, edit, own):
        ahead, behind = fairest(sheet), fairest(own)
        self.assertTrue(plainly.is_fairest(sheet, ahead) and plainly.is_fairest(own, behind))
        told = [Fraction(*new) - Fraction(*old) for old, new in zip(ahead, behind)]
        self.assertEqual(moves(sheet, edit), tuple(pair(by) for by in told))
        self.assertEqual(moves(edit=listed(edit), sheet=listed(sheet)), moves(sheet, edit))
        self.assertEqual(spread(sheet, edit), pair(max(told) - min(told)))
        self.assertEqual(spread(edit=listed(edit), sheet=listed(sheet)), spread(sheet, edit))
        self.assertIs(moves_nothing(sheet, edit), max(told) == min(told))
        self.assertIs(moves_nothing(edit=listed(edit), sheet=listed(sheet)), max(told) == min(told))
        rows = tuple((pair(by - min(told)), tuple(k for k, at in enumerate(told) if at == by))
                     for by in sorted(set(told)))
        self.assertEqual(movers(sheet, edit), rows)
        self.assertEqual(movers(edit=listed(edit), sheet=listed(sheet)), rows)

    def refused(self, sheet, edit, own):
        bad = own if plainly.does_stand(sheet) else sheet
        for deed in (moves, spread, moves_nothing, movers):
            with self.assertRaises((NoRoom, Loose, Afloat)) as caught:
                deed(sheet, edit)
            self.assertTrue(plainly.tells_why(bad, caught.exception))
        return caught.exception.__class__

    def test_told_more(self):
        row, seen = Row(315), set()
        for sheet in many_sheets(316, 90):
            if not plainly.does_stand(sheet):
                continue
            for mark in plainly.marks(sheet):
                for far in some_fars(row):
                    own = plainly.told_more(sheet, mark, Fraction(*far))
                    if plainly.does_stand(own):
                        seen.add((mark[0], far[0] > 0))
                        self.one_rule(sheet, mark, Fraction(*far), own)
        self.assertEqual(len(seen), 4)

    def one_rule(self, sheet, mark, far, own):
        told = [Fraction(*by) for by in moves(sheet, ("more", mark, pair(far)))]
        i, j = plainly.rule(sheet, mark)[:2]
        self.assertLessEqual(max(told) - min(told), abs(far))
        self.assertEqual((told[i], told[j]), (min(told), max(told)) if far > 0 else (max(told), min(told)))
        ahead, behind = (sheet, fairest(sheet)), (own, fairest(own))
        if far < 0:
            ahead, behind = behind, ahead
        if mark[0] == "ease":
            self.assertLessEqual(Fraction(*eases(*behind)[mark[1]]), Fraction(*eases(*ahead)[mark[1]]))
        else:
            # Both are LAYOUTS of the SHEET that is told less.
            self.assertNotEqual(fairer(ahead[0], behind[1], ahead[1]), 1)

    def test_what_moves_nothing(self):
        row, seen = Row(318), set()
        for sheet in many_sheets(319):
            if not plainly.does_stand(sheet):
                continue
            layout = fairest(sheet)
            for k, own in enumerate(sheet[1]):
                if not plainly.is_tight(layout, own):
                    seen.add("out")
                    self.assertIs(moves_nothing(sheet, ("out", ("hard", k))), True)
            if sheet[0] > 1:
                i, j, _ = drawn_rule(row, sheet, "hard")
                for less in (0, 2):
                    far = pair(plainly.gap(layout, (i, j)) - less)
                    seen.add("in")
                    self.assertIs(moves_nothing(sheet, ("in", ("hard", 0), (i, j, far))), True)
                    self.assertEqual(spread(sheet, ("in", ("hard", 0), (i, j, far))), (0, 1))
        self.assertEqual(seen, {"in", "out"})
        self.assertEqual(movers(FRAME, ("more", ("hard", 0), (0, 1))), (((0, 1), (0, 1, 2)),))
        # All move alike against 0 itself only: that is a move.
        both = (2, ((0, 1, (1, 1)), (1, 0, (-3, 1))), ((0, 1, PLAIN),))
        self.assertEqual(moves(both, ("more", ("hard", 1), (1, 1))), ((0, 1), (-1, 1)))
        self.assertEqual(movers(both, ("more", ("hard", 1), (1, 1))), (((0, 1), (1,)), ((1, 1), (0,))))


class MostMore(unittest.TestCase):
    def test_by_all_rings(self):
        seen = set()
        for sheet in many_sheets(321, 110):
            unroomy = plainly.without_room(sheet)
            for mark in plainly.marks(sheet):
                if unroomy:
                    with self.assertRaises(NoRoom) as caught:
                        most_more(sheet, mark)
                    ring = caught.exception.ring
                    self.assertIn(min(ring[at:] + ring[:at] for at in range(len(ring))), unroomy)
                    continue
                sums = [plainly.hard_sum(sheet, ring) for ring in plainly.hard_rings(sheet) if mark in ring]
                told = pair(-max(sums)) if sums else None
                seen.add((mark[0], told is None, told == (0, 1)))
                self.assertEqual(most_more(sheet, mark), told)
                self.assertEqual(most_more(mark=list(mark), sheet=listed(sheet)), told)
                if told is not None:
                    at = plainly.told_more(sheet, mark, Fraction(*told))
                    self.assertEqual(plainly.without_room(at), [])
                    self.assertTrue(plainly.without_room(plainly.told_more(at, mark, Fraction(1, 10 ** 6))))
        self.assertEqual(len(seen), 4)


class Errors(unittest.TestCase):
    def calls(self, sheet, edit):
        return [lambda: edited(sheet, edit), lambda: edited_by(sheet, (edit,)), lambda: undoing(sheet, edit),
                lambda: moves(sheet, edit), lambda: spread(sheet, edit), lambda: moves_nothing(sheet, edit),
                lambda: movers(sheet, edit)]

    def test_no_place_ahead_of_all(self):
        shut = (3, ((0, 1, (1, 1)), (1, 0, (0, 1))), FRAME[2])
        for sheet, many in ((FRAME, 1), (shut, 2)):
            for edit in (("more", ("hard", many), (1, 1)), ("more", ("ease", 2), (1, 1)), ("out", ("hard", -1)),
                         ("out", ("ease", 99)), ("in", ("hard", many + 1), (0, 1, (1, 1))),
                         ("in", ("ease", 3), (0, 1, PLAIN)), ("in", ("ease", -1), (0, 1, PLAIN))):
                for own in (edit, listed(edit)):
                    for call in self.calls(sheet, own):
                        with self.assertRaises(NoPlace) as caught:
                            call()
                        self.assertEqual(vars(caught.exception), {"place": edit[1]})
            for mark in (("hard", many), ("hard", -1), ("ease", 2), ("ease", -7)):
                with self.assertRaises(NoPlace) as caught:
                    most_more(sheet, mark)
                self.assertEqual(vars(caught.exception), {"place": mark})

    def test_the_first_edit_of_which_this_is_so(self):
        some = (("out", ("hard", 0)), ("out", ("hard", 0)), ("out", ("ease", 9)))
        with self.assertRaises(NoPlace) as caught:
            edited_by(FRAME, some)
        self.assertEqual(caught.exception.place, ("hard", 0))
        # A place that is there only behind those ahead of it.
        some = (("in", ("hard", 1), (0, 1, (0, 1))), ("out", ("hard", 1)), ("in", ("hard", 2), (0, 1, (0, 1))))
        with self.assertRaises(NoPlace) as caught:
            edited_by(FRAME, some)
        self.assertEqual(caught.exception.place, ("hard", 2))

    def test_the_sheet_itself_raises_first(self):
        loose, floating = (2, (), ((0, 1, PLAIN),)), (3, (), ((0, 1, PLAIN), (1, 0, PLAIN)))
        shut = ("in", ("hard", 0), (0, 1, (5, 1))), ("in", ("hard", 0), (1, 0, (5, 1)))
        for deed in (moves, spread, moves_nothing, movers):
            # Behind it there is a RING without room, but that is looked at later.
            with self.assertRaises(Loose) as caught:
                deed(edited(loose, shut[0]), shut[1])
            self.assertEqual(caught.exception.lot, (1,))
            with self.assertRaises(Afloat) as caught:
                deed(edited(floating, shut[0]), shut[1])
            self.assertEqual(caught.exception.lot, (2,))
            with self.assertRaises(NoRoom) as caught:
                deed(FRAME, ("in", ("hard", 1), (0, 2, (9, 1))))
            self.assertIn(caught.exception.ring, ((("hard", 0), ("hard", 1)), (("hard", 1), ("hard", 0))))

    def test_arguments_stay(self):
        sheet, edit = listed(FRAME), ["more", ["hard", 0], [1, 1]]
        edited(sheet, edit), edited_by(sheet, [edit]), undoing(sheet, edit), moves(sheet, edit), spread(sheet, edit)
        movers(sheet, edit), moves_nothing(sheet, edit), most_more(sheet, ["hard", 0])
        self.assertEqual((sheet, edit), (listed(FRAME), ["more", ["hard", 0], [1, 1]]))
        self.assertEqual(marks_of(edited(sheet, ["in", ["ease", 0], [0, 2, listed(BENT)]])),
                         (("hard", 0), ("ease", 0), ("ease", 1), ("ease", 2)))
        self.assertIs(stands(edited(sheet, edit)), True)


if __name__ == "__main__":
    unittest.main()
