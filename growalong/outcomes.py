"""Outcomes: all that a program can tell on a web."""

from growalong.benches import Bench, check_codes
from growalong.kinds import is_list_or_tuple
from growalong.standings import Play, is_outcome, outcomes_of, standings_of, steps_to


def outcomes(web, program):
    """The ascending list of all outcomes."""
    check_codes(web, program)
    return outcomes_of(Play(web, program))


def run_to(web, program, outcome):
    """A list of steps that leads a new bench to an outcome, None if there is none."""
    check_codes(web, program)
    play = Play(web, program)
    found = standings_of(play)
    if is_outcome(web.machines, outcome):
        for standing in found:
            if play.outcome_of(standing) == outcome:
                return steps_to(found, standing)
    return None


def is_run_to(web, program, outcome, thing):
    """Whether a thing is a list or tuple of steps that leads a new bench to an outcome."""
    check_codes(web, program)
    if not is_list_or_tuple(thing) or not is_outcome(web.machines, outcome):
        return False
    moment = Bench(web, program).moment
    for step in thing:
        if not moment.allows(step):
            return False
        moment.perform(step)
    return moment.outcome_now() == outcome


def stuck(web, program):
    """A list of steps to where nothing can be done, though some machine is not at its end; None if there is none."""
    check_codes(web, program)
    play = Play(web, program)
    found = standings_of(play)
    for standing in found:
        if play.outcome_of(standing) is None and not play.onward(standing):
            return steps_to(found, standing)
    return None


def many_standings(web, program):
    """How many unlike standings there are."""
    check_codes(web, program)
    return len(standings_of(Play(web, program)))
