"""[1], [2], [24]: what holds for each function of the interface, and for each file of the package."""

import ast
import copy
import importlib
import os
import re
import unittest

from drawn import ODD_THINGS, PLAIN, listed

HERE = os.path.dirname(os.path.abspath(__file__))
FOLDER = os.path.join(os.path.dirname(HERE), "likecuts")
FRAME = (3, ((2, 0, (-4, 1)),), ((0, 1, PLAIN), (1, 2, PLAIN)))
NEAR = (3, FRAME[1] + ((0, 1, (3, 1)),), FRAME[2])
NET = (4, ((3, 0, (-4, 1)),), ((0, 1, PLAIN), (1, 3, PLAIN), (0, 2, PLAIN), (2, 3, PLAIN)))
TWICE = (3, FRAME[1], FRAME[2][:1] + FRAME[2])
SHUT = (2, ((0, 1, (2, 1)), (1, 0, (-1, 1))), ())
LOOSE = (2, (), ((0, 1, PLAIN),))
EVEN, SKEW, THIRDS = ((0, 1), (2, 1), (4, 1)), ((0, 1), (1, 1), (4, 1)), ((0, 1), (4, 3), (8, 3))
ABOUT = (("hard", 0), ("ease", 0), ("ease", 1))
TOWER = (((2, 1), ABOUT),)
HALVES = (((0, 1), (0, 1)), ((0, 1), (1, 2)), ((0, 1), (1, 1)))
TABLE = ((None, None, HALVES, (ABOUT, ABOUT)),)
LESS = ("more", ("hard", 0), (1, 1))
PLAN = (2, (("just", ("front", 0), ("back", 0), (6, 1)), ("inside", 1, 0, PLAIN), ("row", (1,), PLAIN),
            ("just", ("front", 1), ("back", 1), (2, 1))))
CLAIM = ("fairest", FRAME, SKEW)
CLAIMS = (("stands", FRAME), ("part", NET, 0, 3, (0, 1, 3)), ("alike", FRAME, 0, NEAR, 0))
HALF = ((((0, 1), (2, 1), (4, 1)), (1, 2)), (((0, 1), (0, 1), (4, 1)), (1, 2)))
# Arguments for each function of the interface; those with a thing are told one that is such a value.
SAMPLES = {
    "fractions": {
        "is_fraction": ((1, 2),), "fraction": (6, -4), "whole": (7,), "plus": ((1, 2), (1, 3)),
        "minus": ((1, 2), (1, 3)), "times": ((2, 3), (3, 2)), "over": ((1, 2), (-3, 1)), "order": ((1, 2), (1, 3)),
        "least": (((1, 2), (0, 1)),), "greatest": (((1, 2), (0, 1)),), "total": (((1, 2), (0, 1)),),
        "floor_of": ((-7, 2),), "fraction_text": ((-7, 2),), "fraction_by": ("10/3",)},
    "scales": {
        "is_scale": (PLAIN,), "ease_at": (PLAIN, (3, 1)), "gap_at": (PLAIN, (3, 1)), "plain_scale": ((2, 1),),
        "shifted": (PLAIN, (5, 1)), "rate_at": (PLAIN, (1, 1)), "are_alike": (PLAIN, PLAIN), "trimmed": (PLAIN,),
        "level_of": ((PLAIN, PLAIN), (-6, 1)), "together": ((PLAIN, PLAIN),)},
    "sheets": {
        "is_sheet": (FRAME,), "marks_of": (FRAME,), "rule_of": (FRAME, ("ease", 1)), "is_ring": (FRAME, ABOUT),
        "rings": (FRAME,), "ring_far": (FRAME, ABOUT), "no_room": (SHUT,),
        "is_no_room": (SHUT, (("hard", 1), ("hard", 0))), "loose_lot": (LOOSE,), "is_loose_lot": (LOOSE, (1,)),
        "hard_gap": (NEAR, 2, 1), "chain": (NEAR, 2, 1), "is_chain": (NEAR, 2, 1, (("hard", 0), ("hard", 1))),
        "spans": (NEAR,), "hung_lots": (FRAME,), "stands": (FRAME,), "standing": (FRAME,)},
    "layouts": {
        "is_layout": (FRAME, EVEN), "gap_of": (FRAME, EVEN, ("ease", 1)), "gaps": (FRAME, EVEN),
        "spares": (FRAME, EVEN), "tight": (FRAME, EVEN), "eases": (FRAME, EVEN), "ease_row": (FRAME, SKEW),
        "least_eased": (FRAME, EVEN), "fairer": (FRAME, EVEN, SKEW), "mix_of": (FRAME, EVEN, SKEW, (1, 2))},
    "levels": {
        "ring_level": (FRAME, ABOUT), "eased": (FRAME, (1, 1)), "is_eased": (FRAME, (1, 1), SKEW),
        "bar_to": (FRAME, (3, 1)), "is_bar_to": (FRAME, (3, 1), ABOUT), "top_level": (FRAME,), "top_ring": (FRAME,),
        "is_top_ring": (FRAME, ABOUT), "eased_gap": (FRAME, (1, 1), 0, 1), "most_ease": (FRAME, (1, 1), 0)},
    "towers": {
        "fairest": (FRAME,), "tower": (FRAME,), "is_tower": (FRAME, TOWER), "laid_by": (FRAME, TOWER),
        "levels_of": (FRAME,), "first_lots": (FRAME,)},
    "cuts": {
        "leaving": (FRAME, (1,)), "entering": (FRAME, (1,)), "least_out": (FRAME, SKEW, (1,)),
        "least_in": (FRAME, SKEW, (1,)), "is_like": (FRAME, SKEW, (1,)), "unlike_cuts": (FRAME, SKEW),
        "all_like": (FRAME, SKEW), "unlike_cut": (FRAME, SKEW), "is_unlike_cut": (FRAME, SKEW, (1,)),
        "moved_on": (SKEW, (1,), (1, 2)), "best_step": (FRAME, SKEW, (1,)), "complaint": (FRAME, SKEW),
        "is_complaint": (FRAME, SKEW, ((1,), EVEN))},
    "reasons": {
        "reason": (FRAME, 0), "reasons": (FRAME,), "is_reason": (FRAME, EVEN, 0, ABOUT),
        "are_reasons": (FRAME, EVEN, (ABOUT, ABOUT)), "unreasoned": (FRAME, SKEW), "bar_against": (FRAME, SKEW, 0),
        "is_bar": (FRAME, SKEW, 0, (1,)), "held_by": (FRAME, 0), "reasons_many": (FRAME, 0),
        "shared_reasons": (FRAME, 0)},
    "lots": {
        "lots_at": (FRAME, (2, 1)), "tie": (FRAME, 0, 1), "lot_tree": (FRAME,), "tied_by": (FRAME, 0, 1, (2, 1)),
        "is_tied_by": (FRAME, 0, 1, (2, 1), ((("ease", 0),), (("ease", 1), ("hard", 0)))),
        "parting_cut": (FRAME, 0, 1, (1, 1)), "is_parting_cut": (FRAME, 0, 1, (1, 1), (0, 2)),
        "lot_alone": (FRAME, 0, (2, 1))},
    "edits": {
        "is_edit": (FRAME, LESS), "edited": (FRAME, LESS), "edited_by": (FRAME, (LESS, LESS)), "undoing": (FRAME, LESS),
        "moves": (FRAME, LESS), "spread": (FRAME, LESS), "moves_nothing": (FRAME, LESS), "movers": (FRAME, LESS),
        "most_more": (FRAME, ("hard", 0))},
    "rates": {
        "rates_on": (FRAME, ("hard", 0)), "rates_back": (FRAME, ("hard", 0)), "ease_rates_on": (FRAME, ("hard", 0)),
        "ease_rates_back": (FRAME, ("hard", 0)), "reach_on": (FRAME, ("ease", 0)), "reach_back": (NEAR, ("hard", 1)),
        "is_bend": (NEAR, ("hard", 0))},
    "widths": {
        "is_free": (FRAME, 0), "least_width": (FRAME, 0), "sheet_at": (FRAME, 0, (7, 2)), "table": (NEAR, 0),
        "is_table": (FRAME, 0, TABLE), "lines_of": (NEAR, 0), "bends": (NEAR, 0), "laid_at": (FRAME, 0, (7, 2))},
    "apart": {
        "alike_widths": (FRAME, 0, NEAR, 0), "first_apart": (FRAME, 0, NEAR, 0),
        "is_apart_width": (FRAME, 0, NEAR, 0, (4, 1)), "widths_of_ease": (NEAR, 0, 0, (3, 1)),
        "width_for": (FRAME, 0, (3, 1))},
    "parts": {
        "is_part": (NET, 0, 3, (0, 1, 3)), "least_parts": (NET, 0, 3), "parting_pairs": (NET,),
        "part_bar": (NET, 0, 1, (0, 1, 2)), "is_part_bar": (NET, 0, 1, (0, 1, 2), ("ease", 3)),
        "part_names": (3, (0, 2, 3)), "part_sheet": (NET, 0, 3, (0, 2, 3), (3, 1)), "held": (NET, 0, 3, (3, 1)),
        "cut_out": (EVEN, 1, (0, 1, 2)), "part_layout": (NET, 0, 3, (0, 2, 3)), "by_parts": (NET, 0, 3, (3, 1)),
        "put_together": (NET, 0, 3, (EVEN, SKEW))},
    "idle": {
        "idle_hard": (NEAR,), "bypass": ((2, ((0, 1, (1, 1)),) * 2, ()), 1), "slip": (NEAR, 1),
        "is_bypass": ((2, ((0, 1, (1, 1)),) * 2, ()), 1, (("hard", 0),)), "is_slip": (NEAR, 1, EVEN),
        "laid_without": (NEAR, ("hard", 1)), "is_felt": (NEAR, ("hard", 1)), "felt_marks": (NEAR,),
        "unfelt_witness": (TWICE, ("ease", 1)),
        "is_unfelt_witness": (TWICE, ("ease", 1), ((("ease", 0), ("ease", 2), ("hard", 0)), None,
                                                   (("ease", 0), ("ease", 2), ("hard", 0)))),
        "lean_marks": (TWICE,), "lean_sheet": (TWICE,)},
    "floors": {
        "is_whole": (FRAME,), "floor_at": (FRAME, THIRDS, (1, 2)), "floor_steps": (FRAME, THIRDS),
        "floors": (FRAME, THIRDS), "is_floor": (FRAME, THIRDS, ((0, 1), (1, 1), (3, 1))),
        "is_mean": (FRAME, SKEW, HALF), "fairest_floor": (FRAME, THIRDS), "floored": (FRAME,)},
    "boxes": {
        "is_plan": (PLAN,), "thing_of": (("back", 2),), "edge_of": (2,), "sheet_of": (PLAN,), "marks_by": (PLAN, 1),
        "saying_of": (PLAN, ("ease", 1)), "boxes_of": (((0, 1), (6, 1), (2, 1), (4, 1)),), "laid": (PLAN,),
        "eases_of": (PLAN,), "turned": (PLAN,)},
    "judge": {
        "is_claim": (CLAIM,), "is_so": (CLAIM,), "paper": (CLAIM,), "is_paper_for": (("eased", FRAME, (1, 1)), SKEW),
        "is_paper_against": (CLAIM, (1,)), "verdicts": (CLAIMS, (TOWER, (), (4, 1))),
        "comes_of": (("eased", FRAME, (1, 1)), (CLAIM,)), "first_false": (CLAIMS,)},
    "texts": {
        "sheet_text": (NEAR,), "layout_text": (THIRDS,), "plan_text": (PLAN,), "table_text": (TABLE,),
        "sheet_read": ("things 2\nhard 0 1 1/2",), "layout_read": ("layout 0 1",), "plan_read": ("boxes 1",),
        "table_read": ("from - to 6\nlines 0:0 3:1/2\nring h0 e0",)},
    "desk": {"desk": ("sheet\n things 2\nlay\nrules",), "is_request": ("undo",)},
}


def interface():
    """The rows (module, function, names of its arguments) of the interface, but the errors."""
    with open(os.path.join(HERE, "interface.txt"), encoding="ascii") as file:
        for row in file.read().splitlines():
            module, told = row.split(": ")
            for name, arguments in re.findall(r"(\w+)\(([^)]*)\)", told):
                if module != "errors":
                    yield module, name, arguments.split(", ")


def calls():
    """The rows (function, names of arguments, arguments) of all samples."""
    for module, name, names in interface():
        deed = getattr(importlib.import_module("likecuts." + module), name)
        yield deed, names, SAMPLES[module][name]


def is_made_of_tuples(value):
    return not isinstance(value, list) and (not isinstance(value, tuple) or all(is_made_of_tuples(own) for own in value))


class Calls(unittest.TestCase):
    def test_each_function_has_its_sample(self):
        told = {}
        for module, name, names in interface():
            told.setdefault(module, {})[name] = len(names)
        self.assertEqual({module: {name: len(some) for name, some in rows.items()} for module, rows in SAMPLES.items()},
                         told)

    def test_lists_and_names_in_the_place_of_tuples_and_places(self):
        for deed, names, some in calls():
            with self.subTest(name=deed.__name__):
                right = deed(*some)
                self.assertEqual(deed(*some), right)
                self.assertEqual(deed(**dict(zip(names[::-1], some[::-1]))), right)
                lists = [self.as_list(name, own) for name, own in zip(names, some)]
                kept = copy.deepcopy(lists)
                told = deed(*lists)
                self.assertEqual(told, right)
                self.assertEqual(told.__class__, right.__class__)
                self.assertEqual(deed(**dict(zip(names, lists))), right)
                # The arguments are what they were; and what comes back does not change with them.
                self.assertEqual(lists, kept)
                for own in lists:
                    self.spoil(own)
                self.assertEqual(told, right)
                self.assertEqual(deed(*some), right)

    def as_list(self, name, value):
        """The argument with lists for tuples; a thing stays, and so do those in the list of things."""
        if name == "thing":
            return value
        return list(value) if name == "things" else listed(value)

    def spoil(self, value):
        if isinstance(value, list):
            for own in list(value):
                self.spoil(own)
            value.clear()

    def test_each_list_is_new_and_holds_no_list(self):
        for deed, _, some in calls():
            with self.subTest(name=deed.__name__):
                told = deed(*some)
                if isinstance(told, list):
                    self.assertTrue(all(is_made_of_tuples(own) for own in told))
                    right = list(told)
                    told.clear()
                    told.append(None)
                    self.assertEqual(deed(*some), right)
                else:
                    self.assertTrue(is_made_of_tuples(told))

    def test_things(self):
        seen = 0
        for deed, names, some in calls():
            if "thing" not in names:
                continue
            seen += 1
            with self.subTest(name=deed.__name__):
                self.assertEqual(names[-1], "thing")
                right = some[-1]
                self.assertIs(deed(*some), True)
                self.assertIs(deed(*listed(some[:-1]), right), True)
                if isinstance(right, tuple):
                    for wrong in (list(right), listed(right), right + (None,), (right,), [right], right + ([],)):
                        self.assertIs(deed(*some[:-1], wrong), False, wrong)
                for wrong in self.bent_by_kind(right):
                    self.assertIs(deed(*some[:-1], wrong), False, wrong)
                for thing in ODD_THINGS:
                    self.assertIn(deed(*some[:-1], thing), (True, False))
                    self.assertIn(deed(*some[:-1], thing).__class__, (bool,))
        self.assertEqual(seen, 34)

    def bent_by_kind(self, value):
        """The value with a bool for one of its numbers that is equal to it, or a list for one of its tuples."""
        if isinstance(value, int) and value in (0, 1):
            return [bool(value)]
        if not isinstance(value, tuple):
            return []
        found = [list(value)]
        for at, own in enumerate(value):
            found += [value[:at] + (other,) + value[at + 1:] for other in self.bent_by_kind(own)]
        return found


class Files(unittest.TestCase):
    def trees(self):
        for name in sorted(os.listdir(FOLDER)):
            if name.endswith(".py"):
                with open(os.path.join(FOLDER, name), encoding="ascii") as file:
                    yield name, ast.parse(file.read())

    def test_no_clock_no_randomness_no_files(self):
        for name, tree in self.trees():
            for node in ast.walk(tree):
                self.assertNotIsInstance(node, ast.Import, name)
                if isinstance(node, ast.ImportFrom):
                    self.assertTrue(node.module in ("math", "itertools") or node.module.startswith("likecuts."), name)
                if isinstance(node, ast.Name):
                    self.assertNotIn(node.id, ("open", "print", "input", "eval", "exec", "hash", "id", "globals"), name)

    def test_each_file_is_imported_by_itself(self):
        for name, _ in self.trees():
            if name != "__init__.py":
                module = importlib.import_module("likecuts." + name[:-3])
                self.assertTrue(module.__doc__, name)

    def test_functions_are_defined_where_they_are_listed(self):
        for deed, _, _ in calls():
            self.assertTrue(deed.__module__.startswith("likecuts."))
        for module, name, _ in interface():
            deed = getattr(importlib.import_module("likecuts." + module), name)
            self.assertEqual(deed.__module__, "likecuts." + module, name)


if __name__ == "__main__":
    unittest.main()
