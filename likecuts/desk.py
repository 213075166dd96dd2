"""A desk: requests worked from top to bottom on the SHEET that it holds."""

from likecuts.boxes import sheet_of
from likecuts.edits import edited
from likecuts.errors import Afloat, BadLine, CanNot, Loose, NoPlace, NoRoom, Unfit
from likecuts.fractions import fraction_text, fraction_told, number_told
from likecuts.layouts import eases
from likecuts.reasons import reason
from likecuts.sheets import WORDS, stands
from likecuts.texts import layout_text, plan_read, sheet_read, sheet_text
from likecuts.towers import fairest
from likecuts.widths import laid_at

MOST_FIGURES = 9
# What stands behind the word of each request.
SHAPES = {
    "sheet": (),
    "plan": (),
    "more": ("word", "number", "far"),
    "out": ("word", "number"),
    "undo": (),
    "rules": (),
    "stands": (),
    "lay": (),
    "eases": (),
    "why": ("number",),
    "wide": ("number", "far"),
}
WITH_TEXT = ("sheet", "plan")
DEEDS = ("sheet", "plan", "more", "out")


class Held:
    """The SHEET that a desk holds, and those that it held ahead of each deed that was not taken back."""

    def __init__(self):
        self.sheet = (1, (), ())
        self.ahead = []

    def change(self, word, sheet):
        """Holds this SHEET from now on, by a deed with this word."""
        self.ahead.append((word, self.sheet))
        self.sheet = sheet

    def take_back(self):
        """Takes back the last deed, and tells its word; CanNot() if there is none."""
        if not self.ahead:
            raise CanNot()
        word, sheet = self.ahead.pop()
        self.sheet = sheet
        return word


def part_told(kind, word):
    """The part of this kind of a request that a word tells; None if it tells none."""
    if kind == "word":
        return word if word in WORDS else None
    return number_told(word, MOST_FIGURES) if kind == "number" else fraction_told(word, MOST_FIGURES)


def request_told(lines):
    """The triple of the word, the parts and the text of the request of these lines; None if they are none."""
    words = lines[0].split(" ")
    word, rest = words[0], words[1:]
    if word not in SHAPES or (len(lines) > 1) != (word in WITH_TEXT):
        return None
    kinds = SHAPES[word]
    parts = [part_told(kind, own) for kind, own in zip(kinds, rest)]
    if len(rest) != len(kinds) or None in parts:
        return None
    return word, parts, "\n".join([line[1:] for line in lines[1:]])


def put_apart(text):
    """The list of the lists of the lines of each request, or of what stands in the place of one."""
    groups = []
    for line in text.split("\n"):
        if groups and line.startswith(" "):
            groups[-1].append(line)
        else:
            groups.append([line])
    return groups


def requests_in(text):
    """The list of the requests of a text that is not empty; BadLine(line) for the first line that begins none."""
    found, line = [], 1
    for lines in put_apart(text):
        request = request_told(lines)
        if request is None:
            raise BadLine(line)
        found.append(request)
        line = line + len(lines)
    return found


def sheet_behind(sheet, word, parts, text):
    """The SHEET that a desk that holds sheet holds behind a deed."""
    if word == "sheet":
        return sheet_read(text)
    if word == "plan":
        return sheet_of(plan_read(text))
    return edited(sheet, (word, tuple(parts[:2])) + tuple(parts[2:]))


def answer(sheet, word, parts):
    """The answer to a request that is no deed."""
    if word == "rules":
        return sheet_text(sheet)
    if word == "stands":
        return "yes" if stands(sheet) else "no"
    if word == "why":
        return ", ".join([f"{own} {k}" for own, k in reason(sheet, *parts)])
    if word == "wide":
        return layout_text(laid_at(sheet, *parts))
    layout = fairest(sheet)
    if word == "lay":
        return layout_text(layout)
    return " ".join([fraction_text(ease) for ease in eases(sheet, layout)]) or "-"


def done(held, request):
    """Does a request, and tells its reply unless it is refused."""
    word, parts, text = request
    if word == "undo":
        return held.take_back()
    if word not in DEEDS:
        return answer(held.sheet, word, parts)
    held.change(word, sheet_behind(held.sheet, word, parts, text))
    return "done"


def reply_to(held, request):
    """Does a request, and tells its reply."""
    try:
        return done(held, request)
    except BadLine:
        return "refused BadLine"
    except NoPlace:
        return "refused NoPlace"
    except CanNot:
        return "refused CanNot"
    except Unfit:
        return "refused Unfit"
    except NoRoom:
        return "refused NoRoom"
    except Loose:
        return "refused Loose"
    except Afloat:
        return "refused Afloat"


def desk(text):
    """The list of the replies to the requests of text; BadLine(line) for the first line that begins none."""
    if text == "":
        return []
    held = Held()
    return [reply_to(held, request) for request in requests_in(text)]


def is_request(thing):
    """Whether thing is a string that is one request, whatever its text."""
    if not isinstance(thing, str):
        return False
    groups = put_apart(thing)
    return len(groups) == 1 and request_told(groups[0]) is not None
