"""[2], [23]: a desk, against one that the test keeps itself."""

import re
import time
import unittest
from fractions import Fraction
from math import gcd

from drawn import ODD_THINGS, PLAIN, Row, drawn_plan, drawn_round_sheet, drawn_sheet, pair
from test_texts import PlanReader, SheetReader, of_fraction, write_layout, write_plan, write_sheet

from likecuts.boxes import sheet_of
from likecuts.desk import desk, is_request
from likecuts.edits import edited
from likecuts.errors import Afloat, BadLine, CanNot, Loose, NoPlace, NoRoom, Unfit
from likecuts.layouts import eases
from likecuts.reasons import reason
from likecuts.sheets import stands
from likecuts.towers import fairest
from likecuts.widths import laid_at

NUMBER = "(0|[1-9][0-9]{0,8})"
FAR = "(-?(?:0|[1-9][0-9]{0,8})(?:/[1-9][0-9]{0,8})?)"
LINES = {"more": f"(hard|ease) {NUMBER} {FAR}", "out": f"(hard|ease) {NUMBER}", "why": NUMBER, "wide": f"{NUMBER} {FAR}"}
BARE = ("undo", "rules", "stands", "lay", "eases")
REFUSED = (NoPlace, BadLine, CanNot, Unfit, NoRoom, Loose, Afloat)
PAGE = "sheet\n things 3\n hard 2 0 -4\n ease 0 1 0:0 1:1\n ease 1 2 0:0 1:1\n"


def a_far(word):
    """The FRACTION that a word tells; None if it is not written so."""
    top, _, bottom = word.partition("/")
    if word.startswith("-0") or (bottom and (int(bottom) < 2 or gcd(int(top), int(bottom)) != 1)):
        return None
    return (int(top), int(bottom or "1"))


def words_of(line):
    """The word of a request and its parts; None if this line begins none."""
    if line in BARE or line in ("sheet", "plan"):
        return (line,)
    word, _, rest = line.partition(" ")
    found = re.fullmatch(LINES[word], rest, re.ASCII) if word in LINES else None
    if not found:
        return None
    told = [int(own) if re.fullmatch("[0-9]+", own) and kind == "K" else own
            for own, kind in zip(found.groups(), {"more": "VKF", "out": "VK", "why": "K", "wide": "KF"}[word])]
    if word in ("more", "wide"):
        told[-1] = a_far(told[-1])
        if told[-1] is None:
            return None
    return (word,) + tuple(told)


def requests_of(text):
    """The list of requests with their texts, or the number of the first line that begins none."""
    found, lines = [], text.split("\n") if text else []
    at = 0
    while at < len(lines):
        words, end = words_of(lines[at]), at + 1
        while end < len(lines) and lines[end][:1] == " ":
            end += 1
        if lines[at][:1] == " " or words is None or (end > at + 1) != (words[0] in ("sheet", "plan")):
            return at + 1
        found.append((words, "\n".join(line[1:] for line in lines[at + 1:end])))
        at = end
    return found


class Desk:
    """A desk of the test's own: it keeps all SHEETS that it held."""

    def __init__(self):
        self.held = [((), (1, (), ()))]

    def reply(self, words, text):
        try:
            return self.work(words, text)
        except REFUSED as error:
            return "refused " + error.__class__.__name__

    def work(self, words, text):
        word, sheet = words[0], self.held[-1][1]
        if word == "undo":
            if len(self.held) == 1:
                raise CanNot()
            return self.held.pop()[0]
        if word in ("sheet", "plan"):
            told = (SheetReader if word == "sheet" else PlanReader)().read(text)
            if isinstance(told, int):
                raise BadLine(told)
            self.held.append((word, told if word == "sheet" else sheet_of(told)))
            return "done"
        if word in ("more", "out"):
            self.held.append((word, edited(sheet, (word, words[1:3]) + words[3:])))
            return "done"
        if word == "rules":
            return write_sheet(sheet)
        if word == "stands":
            return {True: "yes", False: "no"}[stands(sheet)]
        if word == "why":
            return ", ".join(own + " " + str(k) for own, k in reason(sheet, words[1]))
        if word == "wide":
            return write_layout(laid_at(sheet, words[1], words[2]))
        if word == "lay":
            return write_layout(fairest(sheet))
        told = [of_fraction(own) for own in eases(sheet, fairest(sheet))]
        return " ".join(told) if told else "-"


def told_lines(word, text):
    return "\n".join([word] + [" " + line for line in text.split("\n")])


def drawn_request(row):
    """The next request."""
    kind = row.below(13)
    mark = row.one_of(("hard", "ease")) + " " + str(row.below(4))
    far = of_fraction(row.fraction(4, (1, 1, 2)))
    if kind == 0:
        sheet = row.one_of((drawn_sheet, drawn_round_sheet))(row, 4)
        return told_lines("sheet", write_sheet(sheet))
    if kind == 1:
        return told_lines("plan", write_plan(drawn_plan(row, 2)))
    if kind == 2:
        text = row.one_of((write_sheet(drawn_round_sheet(row, 3)), write_plan(drawn_plan(row, 2)), "", "things 0"))
        return told_lines(row.one_of(("sheet", "plan")), text)
    if kind in (3, 4):
        return "more " + mark + " " + far
    if kind == 5:
        return "out " + mark
    if kind == 6:
        return "why " + str(row.below(4))
    if kind == 7:
        return "wide " + str(row.below(3)) + " " + far
    return row.one_of(("undo", "undo", "rules", "stands", "lay", "eases"))


class Desks(unittest.TestCase):
    def test_many_requests(self):
        row, seen = Row(571), set()
        for _ in range(130):
            some = [told_lines("sheet", write_sheet(drawn_round_sheet(row, 4)))] if row.below(4) else []
            some += [drawn_request(row) for _ in range(row.below(14))]
            text = "\n".join(some)
            own, requests = Desk(), requests_of(text)
            right = [own.reply(words, told) for words, told in requests]
            self.assertEqual(len(right), len(some))
            self.assertEqual(desk(text), right, text)
            self.assertEqual(desk(text=text), right)
            seen.update(reply for reply in right if reply.startswith("refused"))
            seen.update((words[0], "done") for (words, _), reply in zip(requests, right)
                        if not reply.startswith("refused"))
            self.each_by_itself(some, right)
        self.assertEqual({own for own in seen if isinstance(own, str)},
                         {"refused " + kind.__name__ for kind in REFUSED})
        self.assertEqual(len(seen), len(REFUSED) + 11)

    def each_by_itself(self, some, right):
        """What is asked behind does not change what was replied ahead."""
        for many in (1, len(some) // 2):
            self.assertEqual(desk("\n".join(some[:many])), right[:many])

    def test_undone_again(self):
        row = Row(573)
        for _ in range(60):
            some = [drawn_request(row) for _ in range(row.between(1, 9))]
            ahead = desk("\n".join(some + ["rules"]))
            deeds = [own.split("\n")[0].split(" ")[0] for own, reply in zip(some, ahead) if reply == "done"]
            if "undo" in [own.split(" ")[0] for own in some]:
                continue
            replies = desk("\n".join(some + ["undo"] * (len(deeds) + 1) + ["rules"]))
            self.assertEqual(replies[len(some):], deeds[::-1] + ["refused CanNot", "things 1"])
            more = desk("\n".join(some + ["more hard 0 1", "out ease 0", "undo", "undo", "rules"]))
            if more[len(some):-1] == ["done", "done", "out", "more"]:
                self.assertEqual(more[-1], ahead[-1])

    def test_edges(self):
        self.assertEqual(desk(""), [])
        self.assertEqual(desk("rules\nstands\nlay\neases"), ["things 1", "yes", "layout 0", "-"])
        self.assertEqual(desk("undo\nwhy 0\nwide 0 1\nmore hard 0 1\nout ease 0"),
                         ["refused CanNot"] + ["refused NoPlace"] * 4)
        # A text of one empty line is the empty text; of two, two empty lines.
        self.assertEqual(desk("sheet\n \nplan\n \nsheet\n \n \nrules"), ["refused BadLine"] * 3 + ["things 1"])
        # What is refused changes nothing, and is not taken back.
        self.assertEqual(desk(PAGE + "sheet\n things 0\nout hard 1\nlay\nundo\nundo"),
                         ["done", "refused BadLine", "refused NoPlace", "layout 0 2 4", "sheet", "refused CanNot"])
        # Of each kind of deed one undone.
        told = desk(PAGE + "plan\n boxes 1\nmore hard 0 1\nmore ease 1 -1/2\nundo\nundo\nout ease 0\nundo\nundo\nrules\nundo")
        self.assertEqual(told[:2] + told[3:4], ["done", "done", "refused NoPlace"])
        self.assertEqual(told[2], "refused NoPlace")
        told = desk(PAGE + "more ease 1 -1/2\nrules\nout hard 0\nrules\nundo\nundo\nundo\nundo")
        self.assertEqual(told[2], "things 3\nhard 2 0 -4\nease 0 1 0:0 1:1\nease 1 2 -1/2:0 1/2:1")
        self.assertEqual(told[4:], ["things 3\nease 0 1 0:0 1:1\nease 1 2 -1/2:0 1/2:1", "out", "more", "sheet",
                                    "refused CanNot"])
        self.assertEqual(desk("plan\n boxes 1\n just f0 b0 1\nundo\nrules"), ["done", "plan", "things 1"])

    def test_refused(self):
        self.assertEqual(desk("plan\n boxes 1\nlay\neases\nwhy 0\nwide 0 1\nstands\nwhy 9"),
                         ["done", "refused Afloat", "refused Afloat", "refused Afloat", "refused NoPlace", "no",
                          "refused Afloat"])
        self.assertEqual(desk("sheet\n things 2\n ease 0 1 0:0 1:1\nlay\nwhy 0\nstands"),
                         ["done", "refused Loose", "refused Loose", "no"])
        self.assertEqual(desk("sheet\n things 2\n hard 0 1 2\n hard 1 0 -1\nlay\neases\nwhy 0\nstands\nwide 0 -1"),
                         ["done"] + ["refused NoRoom"] * 3 + ["no", "refused Unfit"])
        self.assertEqual(desk(PAGE + "wide 0 1/2\nwide 1 1\nwhy 2\nmore hard 0 3\nlay\nmore hard 0 9\nlay"),
                         ["done", "layout 0 1/4 1/2", "refused NoPlace", "refused NoPlace", "done", "layout 0 1/2 1",
                          "done", "layout 0 -4 -8"])
        just = "sheet\n things 2\n hard 0 1 2\n hard 1 0 -2\n ease 0 1 0:0 1:1\n"
        self.assertEqual(desk(just + "wide 1 1\nwide 1 2\nout hard 1\nwide 0 1"),
                         ["done", "refused CanNot", "layout 0 2", "done", "refused Unfit"])

    def test_bad_lines_before_all_else(self):
        for text, line in (("\n", 1), ("lay\n", 2), ("lay\n\nlay", 2), (" lay", 1), (" ", 1), ("\nlay", 1),
                           ("lay\n things 1", 1), ("sheet\n things 1\n\nlay", 3), ("sheet", 1), ("plan", 1),
                           ("sheet\nlay", 1), ("sheet\nthings 1", 1), ("lay\nsheet", 2), ("undo 1", 1), ("lay ", 1),
                           ("Lay", 1), ("stands\nwhy", 2), ("why 1 2", 1), ("more hard 0", 1), ("out hard", 1),
                           ("stands\n x\nrubbish", 1), ("sheet\n x\n y\n z\nrubbish\nlay", 5), ("lay\r\nlay", 1),
                           ("lay\tlay", 1), ("sheet \n things 1", 1), ("sheet 1\n things 1", 1), ("rules\n ", 1),
                           ("undo\nundo\nundo\nundone", 4), ("sheet\n things 1\nplan\n boxes 1\n x\nwide 0", 6),
                           ("lay\u00e9", 1), ("\u00a0lay", 1), ("lay\x0blay", 1), ("lay\u2028lay", 1)):
            self.assertEqual(requests_of(text), line, text)
            with self.assertRaises(BadLine, msg=text) as caught:
                desk(text)
            self.assertEqual(vars(caught.exception), {"line": line}, text)
            self.assertIs(is_request(text), False)

    def test_bent(self):
        row, seen = Row(575), set()
        for _ in range(700):
            text = "\n".join(drawn_request(row) for _ in range(row.between(1, 4)))
            for _ in range(row.between(1, 2)):
                place = row.below(len(text))
                sign = row.one_of("01/- \n axhe9")
                text = text[:place] + row.one_of((sign, sign + text[place], "", text[place] * 2)) + text[place + 1:]
            right = requests_of(text)
            seen.add(isinstance(right, int))
            self.assertIs(is_request(text), not isinstance(right, int) and len(right) == 1, text)
            if isinstance(right, int):
                with self.assertRaises(BadLine) as caught:
                    desk(text)
                self.assertEqual(vars(caught.exception), {"line": right}, text)
            else:
                own = Desk()
                self.assertEqual(desk(text), [own.reply(words, told) for words, told in right], text)
        self.assertEqual(seen, {True, False})

    def test_each_list_is_new(self):
        for text in ("", "lay"):
            told = desk(text)
            told.append("more")
            self.assertEqual(desk(text), told[:-1])

    def test_each_call_comes_to_an_end_in_seconds(self):
        start = time.monotonic()
        around = "\n".join(f" ease {i} {i + 1} 0:0 1/2:1 3:2 5:7" for i in range(7))
        text = "sheet\n things 8\n hard 7 0 -1000\n" + around + "\n"
        self.assertEqual(len(desk(text + "lay\nwhy 3\nmore hard 0 1\nwide 0 500\neases\nundo\n" * 30 + "undo")), 182)
        self.assertLess(time.monotonic() - start, 20)


class Requests(unittest.TestCase):
    def test_each_kind(self):
        for text in ("sheet\n ", "plan\n ", "sheet\n x\n \u00e9\n z", "plan\n  \n  x", "more hard 0 1",
                     "more ease 999999999 -999999999/999999998", "out hard 0", "out ease 12", "undo", "rules", "stands",
                     "lay", "eases", "why 0", "why 123456789", "wide 0 0", "wide 7 -1/2"):
            self.assertIs(is_request(text), True, text)
            self.assertIs(is_request(thing=text), True)
            self.assertEqual(len(requests_of(text)), 1)

    def test_no_other_thing(self):
        for text in ("more hard 0 1000000000", "more hard 1000000000 1", "more hard 0 1/1000000000", "more hard 00 1",
                     "more hard 0 01", "more hard 0 1/01", "more hard 0 -0", "more hard 0 2/4", "more hard 0 1/1",
                     "more hard 0 +1", "more hard -1 1", "more soft 0 1", "more Hard 0 1", "more h 0 1", "more 0 hard 1",
                     "more hard  0 1", " more hard 0 1", "more hard 0 1 ", "more hard 0 1/2/3", "more hard 0 1 1",
                     "more hard 0 --1", "more hard 0 /2", "more hard 0 1/", "more hard 0 ", "more hard 0 0/1",
                     "out hard 0 1", "out 0", "out hard -0", "why", "why hard 0", "why 01", "why 1/2", "why -1", "why x",
                     "wide 0", "wide 0 1 2", "wide 1/2 0", "wide 0 x", "wide 0 0/2", "sheet", "plan", "sheet\n", "plan\nx",
                     "sheet\n x\n", "sheet\n x\ny", "sheet x\n x", "undo\n x", "undo ", "lay\n", "lay\nlay", "", "\n", " ",
                     "in hard 0 1", "SHEET\n x", "why \u0661", "why \u00b2", "wide 0 \u0661", "lays", "la"):
            self.assertIs(is_request(text), False, text)
        for thing in ODD_THINGS + (["undo"], ("undo",), "undo" * 100000, ("lay", "lay"), ["lay\n"]):
            self.assertIs(is_request(thing), False)
        self.assertIs(is_request("sheet" + "\n x" * 100000), True)
        self.assertIs(is_request("why " + "1" * 100000), False)

    def test_an_example(self):
        self.assertEqual(pair(Fraction(1, 2)), a_far("1/2"))
        self.assertEqual(desk(PAGE + "why 0\nwhy 1"), ["done", "ease 0, ease 1, hard 0", "ease 1, hard 0, ease 0"])
        self.assertEqual(write_sheet((3, ((2, 0, (-4, 1)),), ((0, 1, PLAIN), (1, 2, PLAIN)))), desk(PAGE + "rules")[1])


if __name__ == "__main__":
    unittest.main()
