"""[2], [22]: texts, against a writer and a reader of the test's own."""

import re
import time
import unittest
from fractions import Fraction
from math import gcd

import plainly
from drawn import PLAIN, Row, drawn_plans, drawn_round_sheets, drawn_sheets, listed, pair

from likecuts.errors import BadLine
from likecuts.texts import (layout_read, layout_text, plan_read, plan_text, sheet_read, sheet_text, table_read,
                            table_text)
from likecuts.towers import fairest
from likecuts.widths import is_free, is_table, table

FRAME = (3, ((2, 0, (-4, 1)),), ((0, 1, PLAIN), (1, 2, PLAIN)))
HALVES = ((None, (6, 1), (((0, 1), (0, 1)), ((3, 1), (1, 2))), ((("hard", 0), ("ease", 0)),)),)
NUMBER = re.compile(r"0|[1-9][0-9]*")
SHAPES = {"least": "EEF", "just": "EEF", "room": "EES", "wide": "RS", "row": "RS", "pile": "DR", "inside": "BBS"}


def of_fraction(own):
    return "/".join(str(number) for number in own) if own[1] != 1 else str(own[0])


def of_pairs(rows):
    return " ".join(of_fraction(one) + ":" + of_fraction(two) for one, two in rows)


def write_sheet(sheet):
    lines = ["things " + str(sheet[0])]
    lines += [" ".join(("hard", str(i), str(j), of_fraction(far))) for i, j, far in sheet[1]]
    return "\n".join(lines + [" ".join(("ease", str(i), str(j), of_pairs(scale))) for i, j, scale in sheet[2]])


def write_plan(plan):
    lines = ["boxes " + str(plan[0])]
    for saying in plan[1]:
        words = [saying[0]]
        for kind, own in zip(SHAPES[saying[0]], saying[1:]):
            if kind == "E":
                words.append(own[0][0] + str(own[1]))
            elif kind == "R":
                words.append(",".join(str(box) for box in own))
            else:
                words.append({"F": of_fraction, "S": of_pairs, "D": str, "B": str}[kind](own))
        lines.append(" ".join(words))
    return "\n".join(lines)


def write_layout(layout):
    return " ".join(["layout"] + [of_fraction(place) for place in layout])


def write_table(rows):
    lines = []
    for first, last, told, rings in rows:
        ends = ["-" if end is None else of_fraction(end) for end in (first, last)]
        lines += ["from " + ends[0] + " to " + ends[1], "lines " + of_pairs(told)]
        lines += [" ".join(["ring"] + [word[0] + str(k) for word, k in ring]) for ring in rings]
    return "\n".join(lines)


class Wrong(Exception):
    """What stands there can not."""


def a_number(word, most=None):
    if not NUMBER.fullmatch(word) or (most is not None and int(word) >= most):
        raise Wrong
    return int(word)


def a_fraction(word):
    found = re.fullmatch("(-?)([0-9]+)(?:/([0-9]+))?", word)
    if not found or not NUMBER.fullmatch(found[2]) or (found[1] and found[2] == "0"):
        raise Wrong
    if found[3] is None:
        return (int(found[1] + found[2]), 1)
    if not NUMBER.fullmatch(found[3]) or int(found[3]) < 2 or gcd(int(found[2]), int(found[3])) != 1:
        raise Wrong
    return (int(found[1] + found[2]), int(found[3]))


def a_pair(word):
    if word.count(":") != 1:
        raise Wrong
    return tuple(a_fraction(own) for own in word.split(":"))


def a_scale(words):
    scale = tuple(a_pair(word) for word in words)
    if len(scale) < 2 or any(Fraction(*low[at]) >= Fraction(*high[at]) for low, high in zip(scale, scale[1:])
                             for at in (0, 1)):
        raise Wrong
    return scale


def must(fits):
    if not fits:
        raise Wrong


class Reader:
    """Reads line by line what has been told so far; raises Wrong in the line that can not stand there."""

    def __init__(self):
        self.at = 0

    def read(self, text):
        """What the text tells, or the number of its bad line."""
        for line in text.split("\n") if text else []:
            self.at += 1
            try:
                self.line(line.split(" "))
            except Wrong:
                return self.at
        return self.told() if self.is_whole() else self.at + 1


class SheetReader(Reader):
    def __init__(self):
        super().__init__()
        self.rules = {"hard": [], "ease": []}

    def line(self, words):
        if self.at == 1:
            must(len(words) == 2 and words[0] == "things")
            self.many = a_number(words[1])
            must(self.many > 0)
            return
        must(words[0] == "ease" or (words[0] == "hard" and not self.rules["ease"] and len(words) == 4))
        must(len(words) > 3)
        i, j = a_number(words[1], self.many), a_number(words[2], self.many)
        must(i != j)
        self.rules[words[0]].append((i, j, a_fraction(words[3]) if words[0] == "hard" else a_scale(words[3:])))

    def is_whole(self):
        return self.at > 0

    def told(self):
        return (self.many, tuple(self.rules["hard"]), tuple(self.rules["ease"]))


class LayoutReader(Reader):
    def line(self, words):
        must(self.at == 1 and words[0] == "layout" and len(words) > 1)
        self.places = tuple(a_fraction(word) for word in words[1:])
        must(self.places[0] == (0, 1))

    def is_whole(self):
        return self.at > 0

    def told(self):
        return self.places


class PlanReader(Reader):
    def __init__(self):
        super().__init__()
        self.sayings = []

    def line(self, words):
        if self.at == 1:
            must(len(words) == 2 and words[0] == "boxes")
            self.boxes = a_number(words[1])
            must(self.boxes > 0)
            return
        must(words[0] in SHAPES)
        kinds, told, rest = SHAPES[words[0]], [], words[1:]
        for kind in kinds:
            must(rest)
            if kind == "S":
                told.append(a_scale(rest))
                rest = []
            else:
                told.append(self.part(kind, rest.pop(0)))
        must(not rest)
        if kinds[0] == kinds[1]:
            must(told[0] != told[1])
        self.sayings.append((words[0],) + tuple(told))

    def part(self, kind, word):
        if kind == "E":
            must(word[:1] in ("f", "b"))
            return ({"f": "front", "b": "back"}[word[0]], a_number(word[1:], self.boxes))
        if kind == "R":
            row = tuple(a_number(own, self.boxes) for own in word.split(","))
            must(len(set(row)) == len(row))
            return row
        if kind == "D":
            must(word in ("front", "back"))
            return word
        return a_fraction(word) if kind == "F" else a_number(word, self.boxes)

    def is_whole(self):
        return self.at > 0

    def told(self):
        return (self.boxes, tuple(self.sayings))


class TableReader(Reader):
    def __init__(self):
        super().__init__()
        self.rows = []

    def line(self, words):
        if self.rows and len(self.rows[-1]) == 2:
            must(words[0] == "lines" and len(words) > 1)
            lines = tuple(a_pair(word) for word in words[1:])
            must(len(self.rows) == 1 or len(lines) == len(self.rows[0][2]))
            self.rows[-1] += [lines, []]
        elif self.rows and (len(self.rows) == 1 or self.is_short()) and words[0] == "ring":
            must(len(words) > 1 and all(word[:1] in ("h", "e") for word in words[1:]))
            marks = [({"h": "hard", "e": "ease"}[word[0]], a_number(word[1:])) for word in words[1:]]
            must(len(set(marks)) == len(marks))
            self.rows[-1][3].append(tuple(marks))
        else:
            must(not self.rows or not self.is_short())
            must(len(words) == 4 and (words[0], words[2]) == ("from", "to"))
            ends = [None if word == "-" else a_fraction(word) for word in (words[1], words[3])]
            must(None in ends or Fraction(*ends[0]) < Fraction(*ends[1]))
            self.rows.append(ends)

    def is_short(self):
        return len(self.rows[-1]) == 4 and len(self.rows[-1][3]) < len(self.rows[0][3])

    def is_whole(self):
        return bool(self.rows) and len(self.rows[-1]) == 4 and not self.is_short()

    def told(self):
        return tuple((first, last, lines, tuple(rings)) for first, last, lines, rings in self.rows)


KINDS = ((sheet_read, sheet_text, SheetReader, write_sheet), (layout_read, layout_text, LayoutReader, write_layout),
         (plan_read, plan_text, PlanReader, write_plan), (table_read, table_text, TableReader, write_table))


def bent_text(row, text):
    """The text bent in one sign, or in one word, or in one line."""
    kind = row.below(12)
    lines = text.split("\n")
    at = row.below(len(lines))
    if kind < 4 and text:
        place = row.below(len(text))
        sign = row.one_of("0123456789-/:, \nhefbx")
        return text[:place] + row.one_of((sign, sign + text[place], "")) + text[place + 1:]
    if kind < 8:
        words = lines[at].split(" ")
        place = row.below(len(words))
        other = row.one_of(row.one_of(lines).split(" "))
        word = row.one_of(("", "0", "00", "-0", "-1", "2/4", "1/1", "0:0", "-", "front", "b0", "h0", "1,1", "0,1", "+1",
                           " ", "1/2", "9" * 30, "x", other, other, "hard", "ease", "ring", "e1", "f1", "2:1"))
        words[place:place + row.below(2)] = [word][:row.below(5)]
        lines[at] = " ".join(words)
    elif kind == 8:
        lines.insert(row.below(len(lines) + 1), row.one_of(lines + ["", " ", "hard 1 0 1", "lines 0:0", "ring e0"]))
    elif kind == 9:
        lines.pop(at)
    elif kind == 10:
        lines.append(lines.pop(at))
    else:
        lines = lines[:at]
    return "\n".join(lines)


class Texts(unittest.TestCase):
    def values(self, seed):
        """For each kind some values."""
        row = Row(seed)
        some = [(1, (), ()), FRAME] + drawn_sheets(seed + 1, 60) + drawn_round_sheets(seed + 2, 30)
        layouts = [((0, 1),)] + [((0, 1),) + tuple(row.fraction(999, (1, 1, 2, 7)) for _ in range(row.below(5)))
                                 for _ in range(60)]
        plans = [(1, ())] + drawn_plans(seed + 3, 90, 4)
        tables = [HALVES] + [self.drawn_table(row) for _ in range(60)]
        for sheet in some:
            for place in range(len(sheet[1])):
                if is_free(sheet, place):
                    tables.append(table(sheet, place))
        return some, layouts, plans, tables[:110]

    def drawn_table(self, row):
        many, rings, rows = row.between(1, 4), row.below(3), []
        for _ in range(row.between(1, 3)):
            low = Fraction(*row.fraction())
            ends = [row.one_of((None, pair(low))), row.one_of((None, pair(low + Fraction(row.between(1, 5), 3))))]
            lines = tuple((row.fraction(), row.fraction()) for _ in range(many))
            rows.append(tuple(ends) + (lines, tuple(self.drawn_ring(row) for _ in range(rings))))
        return tuple(rows)

    def drawn_ring(self, row):
        left = [("hard", 0), ("hard", 11), ("ease", 0), ("ease", 1), ("ease", 10)]
        return tuple(left.pop(row.below(len(left))) for _ in range(row.between(1, 4)))

    def test_written_and_read(self):
        for (read, write, reader, own_write), values in zip(KINDS, self.values(511)):
            for value in values:
                text = own_write(value)
                self.assertEqual(write(value), text)
                self.assertEqual(write(listed(value)), text)
                self.assertEqual(read(text), value)
                self.assertEqual(read(text=text), value)
                self.assertEqual(reader().read(text), value)
        self.assertEqual(sheet_text(sheet=FRAME), write_sheet(FRAME))
        self.assertEqual(layout_text(layout=((0, 1),)), "layout 0")
        self.assertEqual((plan_text(plan=(1, ())), table_text(table=HALVES)), ("boxes 1", write_table(HALVES)))

    def test_bent(self):
        row = Row(515)
        for (read, write, reader, own_write), values in zip(KINDS, self.values(516)):
            seen = set()
            for value in values:
                for _ in range(12):
                    text = own_write(value)
                    for _ in range(row.between(1, 2)):
                        text = bent_text(row, text)
                    seen.add(self.one_text(read, write, reader, text))
            self.assertTrue({"read", 1} < seen, read)

    def one_text(self, read, write, reader, text):
        right = reader().read(text)
        if isinstance(right, int):
            with self.assertRaises(BadLine, msg=text) as caught:
                read(text)
            self.assertEqual(vars(caught.exception), {"line": right}, text)
            return right
        self.assertEqual(read(text), right, text)
        self.assertEqual(write(right), text)
        return "read"

    def bad(self, read, text, line):
        for own in KINDS:
            if own[0] == read:
                self.assertEqual(own[2]().read(text), line, text)
        with self.assertRaises(BadLine, msg=text) as caught:
            read(text)
        self.assertEqual(vars(caught.exception), {"line": line}, text)

    def test_empty_lines(self):
        for read, write, _, own_write in KINDS:
            self.bad(read, "", 1)
            self.bad(read, "\n", 1)
            self.bad(read, " ", 1)
        for (read, _, _, own_write), value in zip(KINDS, (FRAME, ((0, 1), (1, 1)), (1, ()), HALVES)):
            text = own_write(value)
            many = text.count("\n") + 1
            # A line feed at the end begins one more line, an empty one; as well ahead and within.
            self.bad(read, text + "\n", many + 1)
            self.bad(read, "\n" + text, 1)
            if many > 1:
                self.bad(read, text.replace("\n", "\n\n"), 2)

    def test_sheets(self):
        self.assertEqual(sheet_read("things 1"), (1, (), ()))
        self.assertEqual(sheet_read("things 2\nhard 0 1 -7/2\nhard 0 1 0"),
                         (2, ((0, 1, (-7, 2)), (0, 1, (0, 1))), ()))
        for text in ("things 0", "things", "things 01", "things +1", "things -1", "things 1 ", " things 1", "things  1",
                     "things 1 1", "Things 1", "boxes 1", "things 1/2", "hard 0 1 1", "things x", "things 1x"):
            self.bad(sheet_read, text, 1)
        for line in ("hard 0 2 1", "hard 0 0 1", "hard 2 0 1", "hard 0 1", "hard 0 1 1 1", "hard 0 1 2/4", "hard 0 1 -0",
                     "hard 0 1 01", "hard 0 1 1/1", "hard 0 1 +1", "hard 0  1 1", "hard 0 1 1 ", " hard 0 1 1", "hard",
                     "hard 0 -1 1", "hard 00 1 1", "hard 0 1 1/0", "hard 0 1 1/-2", "hard 0 1 0/2", "hard 0 1 x",
                     "hard 0 1 1:2", "soft 0 1 1", "ease 0 1 1", "ease 0 1", "ease 0 1 0:0", "ease 0 1 0:0 0:1",
                     "ease 0 1 0:0 1:0", "ease 0 1 1:1 0:0", "ease 0 1 0:0 1:1 1:2", "ease 0 0 0:0 1:1", "things 2",
                     "ease 0 1 0:0  1:1", "ease 0 1 0:0 1:1 ", "ease 0 1 0:0 1:1:1", "ease 0 1 0:0 1", "ease 0 1 0 0:1",
                     "ease 0 1 0:0 :1", "ease 0 1 0:0 1:", "ease 0 1 0:0 2/2:1", "ease 0 1 0:0,1:1", "ease 0 2 0:0 1:1",
                     "ease 0 1 0:0 -1:1", "EASE 0 1 0:0 1:1", "hard 0 1 --1", "hard 0 1 1/2/3", "hard 0 1 -", "hard 0 1 /2"):
            self.bad(sheet_read, "things 2\n" + line, 2)
            self.bad(sheet_read, "things 2\nhard 0 1 1\n" + line + "\nhard 0 1 1\nrubbish", 3)
        # "hard" behind "ease"; and the first bad line of two.
        self.bad(sheet_read, "things 2\nease 0 1 0:0 1:1\nhard 0 1 1", 3)
        self.bad(sheet_read, "things 2\nease 0 1 0:0 1:1\nease 1 0 0:0 1:1\nhard 0 9 1\nx", 4)

    def test_layouts(self):
        self.assertEqual(layout_read("layout 0"), ((0, 1),))
        self.assertEqual(layout_read("layout 0 0 -1/3 12"), ((0, 1), (0, 1), (-1, 3), (12, 1)))
        for text in ("layout", "layout ", "layout 1", "layout 1/2 0", "layout -0", "layout 0 2/4", "layout 0  1",
                     "layout 0 1 ", " layout 0", "layout 0 00", "layout 0 x", "layout 0 -", "layouts 0", "0 1",
                     "layout 0,1", "layout 0 1:1", "layout 0/1"):
            self.bad(layout_read, text, 1)
        for text in ("layout 0\nlayout 0", "layout 0\n", "layout 0\n\n", "layout 0\nx"):
            self.bad(layout_read, text, 2)
        self.bad(layout_read, "layout x\n", 1)

    def test_plans(self):
        fine = ("least f0 b1 -1/2", "just b1 f0 0", "room f1 f0 0:0 1:1", "wide 1,0 0:0 1:1/2", "row 0 0:0 1:1",
                "pile back 0,1", "pile front 1", "inside 1 0 0:0 1:1 2:3")
        own = plan_read("\n".join(("boxes 2",) + fine))
        self.assertEqual(own[1][:4], (("least", ("front", 0), ("back", 1), (-1, 2)),
                                      ("just", ("back", 1), ("front", 0), (0, 1)),
                                      ("room", ("front", 1), ("front", 0), PLAIN),
                                      ("wide", (1, 0), (((0, 1), (0, 1)), ((1, 1), (1, 2))))))
        self.assertEqual(own[1][4:7], (("row", (0,), PLAIN), ("pile", "back", (0, 1)), ("pile", "front", (1,))))
        for line in ("least f0 f0 1", "least f0 b2 1", "least f0 b1", "least f0 b1 1 1", "least f0 b1 0:0 1:1",
                     "least 0 b1 1", "least front0 b1 1", "least f b1 1", "least f00 b1 1", "least f0 b1 2/4",
                     "just f0 f0 0", "room f0 b0 1", "room f0 b0 0:0", "room f0 f0 0:0 1:1", "wide 1,1 0:0 1:1",
                     "wide 2 0:0 1:1", "wide 0 1 0:0 1:1", "wide ,0 0:0 1:1", "wide 0, 0:0 1:1", "wide  0:0 1:1",
                     "wide 0,01 0:0 1:1", "wide 0:0 1:1", "row 0,1", "row 0,1 1:1 0:0", "pile back", "pile back 0 1",
                     "pile b 0,1", "pile Back 0", "pile 0,1 back", "pile back 0,1 0:0 1:1", "inside 0 0 0:0 1:1",
                     "inside 0 2 0:0 1:1", "inside f0 b1 0:0 1:1", "inside 0,1 0:0 1:1", "inside 0 1", "inside 0 1 1",
                     "stack 0 1", "", " ", "boxes 2", "least f0 b1 -0", "pile back -1", "pile back 0,1 ", " pile back 0"):
            self.bad(plan_read, "boxes 2\n" + line, 2)
            self.bad(plan_read, "boxes 2\npile back 0\n" + line + "\nx", 3)
        for text in ("boxes 0", "boxes", "boxes 02", "things 2", "boxes 2 2", "boxes -1", "pile back 0"):
            self.bad(plan_read, text, 1)
        self.assertEqual(plan_read("boxes 1"), (1, ()))

    def test_tables(self):
        self.assertEqual(table_read("from - to -\nlines 0:0"), ((None, None, (((0, 1), (0, 1)),), ()),))
        both = "from - to 1\nlines 0:0 1:1\nring h0 e0\nring e1\nfrom 1/2 to -\nlines 0:0 1/2:-1\nring e0\nring e1 h3"
        self.assertEqual(table_read(both)[1], ((1, 2), None, (((0, 1), (0, 1)), ((1, 2), (-1, 1))),
                                               ((("ease", 0),), (("ease", 1), ("hard", 3)))))
        for line in ("from 1 to 1", "from 2 to 1", "from - to", "from -", "from 1 1 to 2", "from - till -", "to - from -",
                     "from 0 to 2/4", "from -0 to 1", "from  - to -", "from - to - ", "lines 0:0", "ring e0", "from - to x"):
            self.bad(table_read, line, 1)
            self.bad(table_read, line + "\nlines 0:0", 1)
            if line != "ring e0":
                self.bad(table_read, "from - to 0\nlines 0:0\n" + line, 3)
        for line in ("lines", "lines 0", "lines 0:0:0", "lines 0:", "lines  0:0", "lines 0:0 ", "line 0:0", "ring e0",
                     "from - to -", "lines 0:2/4", "", "lines 0:0 x"):
            self.bad(table_read, "from - to -\n" + line, 2)
        for line in ("ring", "ring ", "ring e", "ring x0", "ring e0 e0", "ring h0 e0 h0", "ring e-1", "ring e00",
                     "ring 0", "ring ease0", "ring e0  h0", "ring e0,h0", "rings e0", "lines 0:0"):
            self.bad(table_read, "from - to -\nlines 0:0\n" + line, 3)
        # What is wanting, and another number of lines or rings than the first STRETCH has.
        lines = both.split("\n")
        for many in range(1, len(lines)):
            text = "\n".join(lines[:many])
            if many in (2, 3, 4):
                self.assertEqual(len(table_read(text)[0][3]), many - 2)
            else:
                self.bad(table_read, text, many + 1)
        self.bad(table_read, both + "\nring e2", 9)
        self.bad(table_read, both.replace("1/2:-1", "1/2:-1 0:0"), 6)
        self.bad(table_read, both.replace(" 1/2:-1", ""), 6)
        self.bad(table_read, "\n".join(lines[:3] + lines[4:]), 7)
        self.bad(table_read, "\n".join(lines[:6] + lines[7:]), 8)
        self.bad(table_read, "\n".join(lines[:6] + ["from 2 to 3"]), 7)

    def test_many_figures(self):
        figures = "1" + "0" * 398 + "1"
        number = 10 ** 399 + 1
        self.assertEqual(sheet_read("things " + figures), (number, (), ()))
        self.assertEqual(sheet_text((number, (), ())), "things " + figures)
        self.assertEqual(layout_read(f"layout 0 -{figures} 1/{figures}"), ((0, 1), (-number, 1), (1, number)))
        self.assertEqual(layout_text(((0, 1), (-number, 1), (1, number))), f"layout 0 -{figures} 1/{figures}")
        self.bad(layout_read, f"layout 0 {figures}/{figures}", 1)
        self.bad(layout_read, f"layout 0 0{figures}", 1)
        self.assertEqual(plan_read(f"boxes {figures}\npile back {'9' * 399}"),
                         (number, (("pile", "back", (10 ** 399 - 1,)),)))
        self.assertEqual(table_read(f"from - to {figures}\nlines {figures}:-{figures}\nring e{figures}"),
                         ((None, (number, 1), (((number, 1), (-number, 1)),), ((("ease", number),),)),))

    def test_read_again_and_laid_alike(self):
        for sheet in [FRAME] + drawn_round_sheets(521, 25):
            if plainly.does_stand(sheet):
                self.assertEqual(fairest(sheet_read(sheet_text(sheet))), fairest(sheet))
                self.assertEqual(layout_read(layout_text(fairest(sheet))), fairest(sheet))
            for place in range(len(sheet[1])):
                if is_free(sheet, place):
                    self.assertIs(is_table(sheet, place, table_read(table_text(table(sheet, place)))), True)

    def test_what_is_written_may_be_whatever_the_readers_tell(self):
        row, seen = Row(523), 0
        for value in self.values(524)[3]:
            text = bent_text(row, write_table(value))
            right = TableReader().read(text)
            if not isinstance(right, int):
                seen += 1
                self.assertEqual(table_text(right), text)
        self.assertGreater(seen, 5)

    def test_arguments_stay(self):
        row = Row(526)
        for (read, write, _, own_write), values in zip(KINDS, self.values(527)):
            value = listed(row.one_of(values))
            kept = listed(value)
            write(value)
            self.assertEqual(value, kept)

    def test_each_call_comes_to_an_end_in_seconds(self):
        start = time.monotonic()
        for read, write, line, head in ((sheet_read, sheet_text, "ease 0 1 0:0 1:1", "things 2"),
                                        (plan_read, plan_text, "inside 0 1 0:0 1:1", "boxes 2")):
            text = "\n".join([head] + [line] * 199)
            self.assertEqual(write(read(text)), text)
        figures = "7" * 400
        text = "layout 0" + f" {figures}/1{'0' * 399}" * 100
        self.assertEqual(layout_text(layout_read(text)), text)
        self.assertLess(time.monotonic() - start, 10)


if __name__ == "__main__":
    unittest.main()
