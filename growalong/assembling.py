"""Assembling: programs made from code texts, and listed as such."""

from growalong.errors import BadText
from growalong.lines import LETTERS, check_end, is_name, line_of, lines_in, number_in
from growalong.programs import FORMS, REGISTERS, Program, goes


class Reading:
    """What the lines of a code text told so far."""

    def __init__(self, labels):
        # For each machine its labels in the whole text, as a label can stand behind what goes to it.
        self.labels = labels
        self.cell_names = {}
        self.owner_list = []
        self.rows = []
        self.passed = {}

    def takes(self, words):
        """Takes a line of these words; tells whether it can stand here."""
        if words[0] == "cell":
            return self.takes_cell(words)
        if words[0] == "machine":
            return self.takes_machine(words)
        if not self.rows:
            return False
        if is_label(words):
            return self.takes_label(words[0])
        return self.takes_row(words)

    def takes_cell(self, words):
        if self.rows or len(words) != 3 or not is_name(words[1]) or words[1] in self.cell_names:
            return False
        owner = number_in(words[2])
        if owner is None:
            return False
        self.cell_names[words[1]] = len(self.owner_list)
        self.owner_list.append(owner)
        return True

    def takes_machine(self, words):
        if not self.owner_list or not is_machine_line(words) or number_in(words[1]) != len(self.rows):
            return False
        self.rows.append([])
        self.passed = {}
        return True

    def takes_label(self, word):
        if word in self.passed:
            return False
        self.passed[word] = True
        return True

    def takes_row(self, words):
        form = FORMS.get(words[0])
        if form is None or len(words) != len(form) + 1:
            return False
        parts = [self.part_in(letter, word) for letter, word in zip(form, words[1:])]
        if None in parts:
            return False
        self.rows[-1].append((words[0], *parts))
        return True

    def part_in(self, letter, word):
        """What a word tells that is such a part of a row as a letter of the forms says; None if it tells none."""
        if letter == "r":
            return register_in(word)
        if letter == "n":
            return signed_number_in(word)
        machine = len(self.rows) - 1
        if letter == "t":
            return self.labels[machine].get(word + ":")
        cell = self.cell_names.get(word)
        if cell is None or (letter == "o" and self.owner_list[cell] != machine):
            return None
        return cell


def is_machine_line(words):
    return len(words) == 2 and words[0] == "machine" and number_in(words[1]) is not None


def is_label(words):
    return len(words) == 1 and words[0].endswith(":") and is_name(words[0][:-1])


def register_in(word):
    if len(word) != 2 or word[0] != "r":
        return None
    number = number_in(word[1])
    return None if number is None or number >= REGISTERS else number


def signed_number_in(word):
    """The number that a word tells, with a sign ahead if it is below 0."""
    if not word.startswith("-"):
        return number_in(word)
    number = number_in(word[1:])
    return None if number is None or number == 0 else -number


def labels_by_machine(lines):
    """For each line machine X a dict that tells of each label behind it the number of the row that comes next."""
    found = []
    rows = 0
    for line in lines:
        words = line.split(" ")
        if is_machine_line(words):
            found.append({})
            rows = 0
        elif not is_label(words):
            rows += 1
        elif found:
            found[-1].setdefault(words[0], rows)
    return found


def assembled(text):
    """The program that a code text tells."""
    lines = lines_in(text)
    reading = Reading(labels_by_machine(lines[:-1]))
    for at, line in enumerate(lines[:-1]):
        if not reading.takes(line.split(" ")):
            raise BadText(at + 1)
    check_end(lines)
    return Program(tuple(reading.owner_list), tuple([tuple(rows) for rows in reading.rows]))


def listed(program):
    """The code text of a program."""
    cells = [line_of(["cell", name_at(cell), owner]) for cell, owner in enumerate(program.owners)]
    codes = [line_of(["machine", machine]) + code_text(code) for machine, code in enumerate(program.codes)]
    return "".join(cells + codes)


def code_text(code):
    """The lines of the rows of a code, with the labels to which they go."""
    targets = sorted({row[-1] for row in code if goes(row)})
    labels = {target: name_at(at) for at, target in enumerate(targets)}
    lines = []
    for at, row in enumerate(code):
        if at in labels:
            lines.append(line_of([labels[at] + ":"]))
        parts = [part_text(letter, part, labels) for letter, part in zip(FORMS[row[0]], row[1:])]
        lines.append(line_of([row[0], *parts]))
    if len(code) in labels:
        lines.append(line_of([labels[len(code)] + ":"]))
    return "".join(lines)


def part_text(letter, part, labels):
    """How such a part of a row is written as a letter of the forms says."""
    if letter == "r":
        return f"r{part}"
    if letter == "t":
        return labels[part]
    return part if letter == "n" else name_at(part)


def name_at(at):
    """The name that stands at a place, from 0, in the order a, b, .., z, aa, ab, .."""
    name = ""
    left = at + 1
    while left > 0:
        name = LETTERS[(left - 1) % len(LETTERS)] + name
        left = (left - 1) // len(LETTERS)
    return name
