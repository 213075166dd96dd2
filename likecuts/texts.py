"""Texts of SHEETS, LAYOUTS, PLANS and TABLES: how they are written, and read again line by line."""

from likecuts.boxes import SHAPES, SIDES, is_saying
from likecuts.errors import BadLine
from likecuts.fractions import ZERO, fraction_text, fraction_told, number_told, order
from likecuts.scales import is_scale
from likecuts.sheets import WORDS, is_rule

NO_END = "-"


class Lines:
    """The lines of a text, read one by one."""

    def __init__(self, text):
        self.lines = text.split("\n") if text else []
        self.many = 0

    def is_left(self):
        """Whether there is one more line."""
        return self.many < len(self.lines)

    def begins_with(self, word):
        """Whether there is one more line, and this is its first word."""
        return self.is_left() and self.lines[self.many].split(" ")[0] == word

    def read_one(self):
        """The list of the words of the line that comes; BadLine if it is wanting."""
        self.many += 1
        self.must(self.many <= len(self.lines))
        return self.lines[self.many - 1].split(" ")

    def must(self, fits):
        """Raises BadLine for the line that was read last unless it fits."""
        if not fits:
            raise BadLine(self.many)


def pair_text(row):
    """The text of a pair of FRACTIONS, as one word."""
    return f"{fraction_text(row[0])}:{fraction_text(row[1])}"


def pairs_text(rows):
    """The text of some pairs of FRACTIONS, each one word."""
    return " ".join([pair_text(row) for row in rows])


def pair_told(word):
    """The pair of what FRACTIONS a word tells, each None if it is none."""
    ahead, _, behind = word.partition(":")
    return fraction_told(ahead), fraction_told(behind)


def scale_told(words):
    """The SCALE that these words tell; None if they tell none."""
    scale = tuple([pair_told(word) for word in words])
    return scale if is_scale(scale) else None


def only_one(words):
    """The one of words; a word that tells nothing if they are more, or none."""
    return words[0] if len(words) == 1 else ""


def counted_from_1(rows, head):
    """The number behind the word head in the first line; BadLine if it is not told so, or below 1."""
    words = rows.read_one()
    number = number_told(only_one(words[1:]))
    rows.must(words[0] == head and number is not None and number >= 1)
    return number


def sheet_text(sheet):
    """The text of a SHEET."""
    many, hard, counted = sheet
    lines = [f"hard {i} {j} {fraction_text(far)}" for i, j, far in hard]
    lines += [f"ease {i} {j} {pairs_text(scale)}" for i, j, scale in counted]
    return "\n".join([f"things {many}"] + lines)


def rule_told(many, words):
    """The RULE of so many THINGS that the words of a line tell; None if they tell none."""
    if words[0] not in WORDS or len(words) < 4:
        return None
    told = fraction_told(only_one(words[3:])) if words[0] == "hard" else scale_told(words[3:])
    rule = (number_told(words[1]), number_told(words[2]), told)
    return rule if told is not None and is_rule(many, rule) else None


def sheet_read(text):
    """The SHEET that has this text; BadLine(line) if there is none."""
    rows = Lines(text)
    many = counted_from_1(rows, "things")
    hard, counted = [], []
    while rows.is_left():
        words = rows.read_one()
        rule = rule_told(many, words)
        rows.must(rule is not None and not (words[0] == "hard" and counted))
        if words[0] == "hard":
            hard.append(rule)
        else:
            counted.append(rule)
    return many, tuple(hard), tuple(counted)


def layout_text(layout):
    """The text of a LAYOUT."""
    return " ".join(["layout"] + [fraction_text(place) for place in layout])


def layout_read(text):
    """The tuple of places that has this text; BadLine(line) if there is none."""
    rows = Lines(text)
    words = rows.read_one()
    places = [fraction_told(word) for word in words[1:]]
    rows.must(words[0] == "layout" and None not in places and places[:1] == [ZERO])
    if rows.is_left():
        rows.read_one()
        rows.must(False)
    return tuple(places)


def signed_text(pair):
    """The word of a pair of a word and a number: an EDGE, or a mark."""
    word, number = pair
    return f"{word[0]}{number}"


def part_text(kind, told):
    """The text of a part of this kind of a SAYING."""
    if kind == "edge":
        return signed_text(told)
    if kind == "far":
        return fraction_text(told)
    if kind == "scale":
        return pairs_text(told)
    if kind == "row":
        return ",".join([str(box) for box in told])
    return str(told)


def saying_text(saying):
    """The line of a SAYING."""
    word, *told = saying
    return " ".join([word] + [part_text(kind, own) for kind, own in zip(SHAPES[word], told)])


def plan_text(plan):
    """The text of a PLAN."""
    boxes, sayings = plan
    return "\n".join([f"boxes {boxes}"] + [saying_text(saying) for saying in sayings])


def signed_told(some, word):
    """The pair of that one of some words that begins as word does, and of the number behind this sign; None if it does
    not tell these."""
    number = number_told(word[1:])
    found = [own for own in some if own[0] == word[:1]]
    return (found[0], number) if found and number is not None else None


def part_told(kind, words):
    """The part of this kind of a SAYING that words tell; what is none if they tell none."""
    if kind == "scale":
        return scale_told(words)
    word = only_one(words)
    if kind == "edge":
        return signed_told(SIDES, word)
    if kind == "far":
        return fraction_told(word)
    if kind == "row":
        return tuple([number_told(own) for own in word.split(",")])
    return word if kind == "side" else number_told(word)


def saying_told(words):
    """The SAYING that the words of a line tell; what is none if they tell none."""
    word, *rest = words
    if word not in SHAPES:
        return ()
    # Each part is one word, but the last one may be more.
    kinds = SHAPES[word]
    ahead = len(kinds) - 1
    told = [part_told(kind, rest[at:at + 1]) for at, kind in enumerate(kinds[:ahead])]
    return (word,) + tuple(told) + (part_told(kinds[ahead], rest[ahead:]),)


def plan_read(text):
    """The PLAN that has this text; BadLine(line) if there is none."""
    rows = Lines(text)
    boxes = counted_from_1(rows, "boxes")
    sayings = []
    while rows.is_left():
        saying = saying_told(rows.read_one())
        rows.must(is_saying(boxes, saying))
        sayings.append(saying)
    return boxes, tuple(sayings)


def end_text(end):
    """The word of an end of a STRETCH."""
    return NO_END if end is None else fraction_text(end)


def ring_text(ring):
    """The line of a RING of a STRETCH."""
    return " ".join(["ring"] + [signed_text(mark) for mark in ring])


def stretch_text(stretch):
    """The lines of a STRETCH."""
    first, last, lines, rings = stretch
    head = [f"from {end_text(first)} to {end_text(last)}", f"lines {pairs_text(lines)}"]
    return "\n".join(head + [ring_text(ring) for ring in rings])


def table_text(table):
    """The text of a TABLE."""
    return "\n".join([stretch_text(stretch) for stretch in table])


def ends_read(rows):
    """The pair of the ends of a STRETCH that the line that comes tells."""
    words = rows.read_one()
    rows.must(len(words) == 4 and words[::2] == ["from", "to"])
    ends = [None if word == NO_END else fraction_told(word) for word in words[1::2]]
    # What is no end and tells no FRACTION is not told at all.
    rows.must(all(end is not None or word == NO_END for end, word in zip(ends, words[1::2])))
    rows.must(None in ends or order(ends[0], ends[1]) < 0)
    return tuple(ends)


def lines_read(rows, ahead):
    """The lines of a STRETCH that the line that comes tells, as many as in the STRETCHES ahead."""
    words = rows.read_one()
    lines = tuple([pair_told(word) for word in words[1:]])
    rows.must(words[0] == "lines" and len(lines) > 0 and not any(None in line for line in lines))
    rows.must(all(len(lines) == len(own[2]) for own in ahead))
    return lines


def ring_read(rows):
    """The marks of a RING of a STRETCH that the line that comes tells."""
    words = rows.read_one()
    marks = [signed_told(WORDS, word) for word in words[1:]]
    rows.must(words[0] == "ring" and len(marks) > 0 and None not in marks and len(set(marks)) == len(marks))
    return tuple(marks)


def is_ring_due(rows, many, ahead):
    """Whether a ring must come behind so many of a STRETCH; in the first one there are as many as are told."""
    return many < len(ahead[0][3]) if ahead else rows.begins_with("ring")


def stretch_read(rows, ahead):
    """The STRETCH that the lines that come tell, behind those STRETCHES ahead."""
    first, last = ends_read(rows)
    lines, found = lines_read(rows, ahead), []
    while is_ring_due(rows, len(found), ahead):
        found.append(ring_read(rows))
    return first, last, lines, tuple(found)


def table_read(text):
    """The tuple of quadruples of the shape of STRETCHES that has this text; BadLine(line) if there is none."""
    rows = Lines(text)
    found = [stretch_read(rows, [])]
    while rows.is_left():
        found.append(stretch_read(rows, list(found)))
    return tuple(found)
