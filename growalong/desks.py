"""The desk: webs, programs, records and benches kept under names, led by lines."""

from growalong.assembling import assembled
from growalong.benches import Bench
from growalong.errors import NoLine, NoName, NothingDone
from growalong.growing import bar
from growalong.lines import is_name, number_in
from growalong.outcomes import outcomes
from growalong.plain import not_plain
from growalong.showing import within
from growalong.texts import read_record, read_web


def joined(numbers):
    """Numbers with commas between, "none" for none."""
    return ",".join([str(number) for number in numbers]) if numbers else "none"


def web_in(text):
    return read_web(text)


def program_in(text):
    return assembled(text)


def record_in(text):
    return read_record(text)


def do_row(bench, x):
    bench.step(("do", x))


def take_letter(bench, y, x):
    bench.step(("come", y, x))


def cut_wire(bench, y, x):
    bench.cut((y, x))


def lay_wire(bench, y, x):
    bench.lay((y, x))


def let_fall(bench, x):
    bench.fall(x)


def let_rise(bench, x):
    bench.rise(x)


def state_told(bench, x):
    return bench.state(x)


def cells_told(bench, x):
    return joined(bench.cells(x))


def told_told(bench, x):
    return joined(bench.told(x))


def diary_told(bench, x):
    return joined(bench.diary(x))


def letters_told(bench, y, x):
    return joined(bench.letters((y, x)))


def journal_told(bench):
    text = bench.journal()
    return text.replace("\n", "|") if text else "none"


def outcome_told(bench):
    outcome = bench.outcome()
    return "open" if outcome is None else " ".join([joined(told) for told in outcome])


def made_told(web, record):
    found = bar(web, record)
    return "yes" if found is None else f"{found[0]}: {joined(found[1])}"


def outcomes_told(web, program):
    return str(len(outcomes(web, program)))


def plain_told(web, program):
    return "yes" if not_plain(web, program) is None else "no"


def within_told(web, other_web):
    return "yes" if within(web, other_web) else "no"


# What stands behind the word of a line: w, p, r, b the name of a web, a program, a
# record, a bench, n a name under which something is to be kept, x a number.
LINE_FORMS = {
    "undo": "", "bench": "wpn",
    "do": "bx", "come": "bxx", "cut": "bxx", "lay": "bxx", "fall": "bx", "rise": "bx",
    "state": "bx", "cells": "bx", "told": "bx", "diary": "bx", "letters": "bxx", "journal": "b", "outcome": "b",
    "made": "wr", "outcomes": "wp", "plain": "wp", "within": "ww",
}

# The words of the lines that keep what a text tells: the sort of it, and what reads it.
TEXT_SORTS = {"web": "w", "code": "p", "record": "r"}

READERS = {"web": web_in, "code": program_in, "record": record_in}

DEEDS = {"do": do_row, "come": take_letter, "cut": cut_wire, "lay": lay_wire, "fall": let_fall, "rise": let_rise}

QUESTIONS = {
    "state": state_told, "cells": cells_told, "told": told_told, "diary": diary_told, "letters": letters_told,
    "journal": journal_told, "outcome": outcome_told, "made": made_told, "outcomes": outcomes_told,
    "plain": plain_told, "within": within_told,
}


class Desk:
    """Webs, programs, records and benches under names, each sort with names of its own."""

    def __init__(self):
        self.kept = {"w": {}, "p": {}, "r": {}, "b": {}}
        # For each line that can be taken back the sort and the name, and the elder thing
        # that it replaced in a tuple of its own; no tuple for a step or deed of a bench.
        self.past_lines = []

    def tell(self, line):
        """Does what a line tells, and returns the answer."""
        if not isinstance(line, str) or "\n" in line:
            raise NoLine()
        word, _, behind = line.partition(" ")
        if word in TEXT_SORTS:
            return self.tell_text(word, behind)
        words = line.split(" ")
        if not has_form(words):
            raise NoLine()
        things = self.things_named(LINE_FORMS[word], words[1:])
        if word == "undo":
            return self.take_back()
        if word == "bench":
            return self.keep("b", words[3], Bench(things[0], things[1]))
        if word in DEEDS:
            deed = DEEDS[word]
            deed(*things)
            self.past_lines.append(("b", words[1], None))
            return "ok"
        question = QUESTIONS[word]
        return question(*things)

    def undoable(self):
        """How many lines can be taken back."""
        return len(self.past_lines)

    def tell_text(self, word, behind):
        name, _, text = behind.partition(" ")
        if not is_name(name) or text == "":
            raise NoLine()
        reader = READERS[word]
        return self.keep(TEXT_SORTS[word], name, reader(text.replace("|", "\n")))

    def things_named(self, form, words):
        """What stands behind the word of a line of this form: the things under the names, and the numbers."""
        things = []
        for letter, word in zip(form, words):
            if letter == "x":
                things.append(number_in(word))
            elif letter != "n":
                if word not in self.kept[letter]:
                    raise NoName(word)
                things.append(self.kept[letter][word])
        return things

    def keep(self, sort, name, thing):
        elder = (self.kept[sort][name],) if name in self.kept[sort] else ()
        self.past_lines.append((sort, name, elder))
        self.kept[sort][name] = thing
        return "ok"

    def take_back(self):
        if not self.past_lines:
            raise NothingDone()
        sort, name, elder = self.past_lines.pop()
        if elder is None:
            # What was done behind that line was taken back before, so the bench is the same.
            self.kept[sort][name].back()
        elif elder == ():
            del self.kept[sort][name]
        else:
            self.kept[sort][name] = elder[0]
        return "ok"


def has_form(words):
    """Whether a line of these words has the form of those that begin with its word."""
    form = LINE_FORMS.get(words[0])
    if form is None or len(words) != len(form) + 1:
        return False
    return all([fits(letter, word) for letter, word in zip(form, words[1:])])


def fits(letter, word):
    return number_in(word) is not None if letter == "x" else is_name(word)
