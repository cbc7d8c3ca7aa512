"""Promises 0.1 to 0.5, of the whole program: what the interface lists is there, and objects are equal as they should."""

import inspect
import unittest
from importlib import import_module

from growalong.benches import Bench
from growalong.desks import Desk
from growalong.halls import Hall
from growalong.programs import Program
from growalong.records import Record
from growalong.webs import Web, full

FUNCTIONS = {
    "webs": """Web(machines, wires) both_ways(machines, pairs) full(machines) hub(machines) line(machines) ring(machines)
        renamed(web, order) with_wire(web, wire) without_wire(web, wire) reached(web, machine) is_strong(web)""",
    "records": "Record(writers, diaries) ahead(record, machine, put) is_whole(record)",
    "runs": "led(web, writers, steps) is_run(web, record, thing)",
    "growing": """growing(web, record, put) trees(web, record) run_of(web, record) bar(web, record)
        is_trees(web, record, thing) is_bar(web, record, thing) is_made(web, record) may_have_put(web, record, put)
        may_come(web, record, machine)""",
    "days": """uncaused(days) sure_wires(days) thinned(days, web) fewest_wires(days) is_least_web(days, thing)""",
    "halls": """Hall(links, places) cuts(hall) node_diaries(hall, record) picture(record)
        is_node_diaries(hall, record, thing) hall_of(record)""",
    "sights": """first_sights(web, sights) ways_apart(web, sights) is_first_sights(web, sights, thing)
        is_ways_apart(web, sights, thing) partings(web, one, other) count_made(web, writers)""",
    "programs": """Program(owners, codes) put_rests(program, places) renamed_program(program, order) waits_of(program)""",
    "benches": "Bench(web, program) replayed(web, program, text)",
    "outcomes": """outcomes(web, program) run_to(web, program, outcome) stuck(web, program)
        is_run_to(web, program, outcome, thing) many_standings(web, program)""",
    "plain": "plain_outcomes(program) not_plain(web, program) fewest_rests(web, program)",
    "showing": "within(web, other_web) is_showing(web, other_web, thing) showing(web, other_web)",
    "texts": """web_text(web) record_text(record) hall_text(hall) read_web(text) read_record(text) read_hall(text)""",
    "assembling": "assembled(text) listed(program)",
    "desks": "Desk()",
}
METHODS = {
    Bench: """can() step(step) steps() back() go(chooser, most) set_break(machine, row) clear_break(machine, row) breaks()
        state(machine) row(machine) registers(machine) remembered(machine) told(machine) cells(machine) diary(machine)
        puts() letters(wire) web() program() outcome() copy() trying(action) cut(wire) lay(wire) fall(machine)
        rise(machine) lives() lived() journal()""",
    Desk: "tell(line) undoable()",
}
ATTRIBUTES = {Web: ("machines", "wires"), Record: ("writers", "diaries"), Hall: ("links", "places"),
              Program: ("owners", "codes")}


def listed(text):
    """The pairs of a name and its arguments, told as name(one, other)."""
    for told in text.replace(")", ");").split(";"):
        if told.strip():
            name, _, arguments = told.strip().rstrip(")").partition("(")
            yield name, [word.strip() for word in arguments.split(",") if word.strip()]


class Interface(unittest.TestCase):

    def test_functions_and_classes(self):
        for module, text in FUNCTIONS.items():
            there = import_module("growalong." + module)
            for name, arguments in listed(text):
                thing = getattr(there, name)
                self.assertEqual(thing.__module__, there.__name__)
                self.assertEqual(list(inspect.signature(thing).parameters), arguments, name)

    def test_methods(self):
        for owner, text in METHODS.items():
            for name, arguments in listed(text):
                self.assertIn(name, vars(owner))
                self.assertEqual(list(inspect.signature(vars(owner)[name]).parameters), ["self", *arguments], name)

    def test_attributes(self):
        for owner, names in ATTRIBUTES.items():
            self.assertIn("__eq__", vars(owner))
            self.assertEqual(list(inspect.signature(owner).parameters), list(names))
        things = [Web(2, ((0, 1),)), Record((0,), ((0,),)), Hall((), (0, 0)), Program((0,), ((),))]
        self.assertEqual([vars(thing) for thing in things],
                         [{"machines": 2, "wires": ((0, 1),)}, {"writers": (0,), "diaries": ((0,),)},
                          {"links": (), "places": (0, 0)}, {"owners": (0,), "codes": ((),)}])

    def test_objects_are_equal_to_nothing_of_another_class(self):
        made = [lambda: Web(2, ()), lambda: Record((0,), ((0,),)), lambda: Hall((), (0,)), lambda: Program((0,), ((),)),
                lambda: Bench(full(1), Program((0,), ((),))), Desk]
        for at, one in enumerate(made):
            for where, other in enumerate(made):
                thing, beside = one(), other()
                self.assertTrue(thing == thing)
                if at != where or at > 3:
                    self.assertFalse(thing == beside)
                    self.assertTrue(thing != beside)
                else:
                    self.assertTrue(thing == beside)
            for thing in (None, 0, (), tuple(vars(one()).values()), vars(one()), [], "", False):
                self.assertFalse(one() == thing)
                self.assertFalse(thing == one())
