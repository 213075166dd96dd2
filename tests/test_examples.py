"""The examples of the document, word by word: each line, its value as Python shows it, or the error that it raises."""

import os
import unittest

from likecuts import (apart, boxes, cuts, desk, edits, errors, floors, fractions, idle, judge, layouts, levels, lots,
                      parts, rates, reasons, scales, sheets, texts, towers, widths)

MODULES = (errors, fractions, scales, sheets, layouts, levels, towers, cuts, reasons, lots, edits,
           rates, widths, apart, parts, idle, floors, boxes, judge, texts, desk)
MANY = {4: 5, 5: 5, 6: 7, 7: 4, 8: 7, 9: 7, 10: 7, 11: 6, 12: 5, 13: 5, 14: 7, 15: 7, 16: 6, 17: 6, 18: 6, 19: 5,
        20: 4, 21: 6, 22: 8, 23: 4}


def read_examples():
    """The list of (section, line, answer): answer None for a line that only sets names."""
    path = os.path.join(os.path.dirname(os.path.abspath(__file__)), "examples.txt")
    with open(path, encoding="ascii") as file:
        lines = file.read().splitlines()
    found, section = [], None
    for place, line in enumerate(lines):
        if line.startswith("# section "):
            section = int(line.split()[2])
        elif line.startswith(">>> "):
            behind = lines[place + 1] if place + 1 < len(lines) else "# end"
            answer = None if behind.startswith((">>> ", "# ")) else behind
            found.append((section, line[4:], answer))
    return found


def shown_error(error):
    """An error as the document writes it: its class, and its attributes with their values."""
    told = ", ".join(f"{name}={value!r}" for name, value in sorted(vars(error).items()))
    return f"raises {error.__class__.__name__}({told})"


class Examples(unittest.TestCase):
    def test_each_example(self):
        names = {}
        for module in MODULES:
            names.update(vars(module))
        answered = {}
        for section, line, answer in read_examples():
            with self.subTest(section=section, line=line):
                if answer is None:
                    exec(line, names)
                    continue
                answered[section] = answered.get(section, 0) + 1
                try:
                    shown = repr(eval(line, names))
                except (LookupError, ValueError) as error:
                    shown = shown_error(error)
                self.assertEqual(shown, answer)
        self.assertEqual(answered, MANY)


if __name__ == "__main__":
    unittest.main()
