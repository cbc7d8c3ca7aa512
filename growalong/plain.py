"""One plain memory: whether the copies can show what one memory can't, and how rests bar that."""

from itertools import combinations

from growalong.benches import check_codes
from growalong.errors import TooMany
from growalong.outcomes import outcomes
from growalong.programs import waits_of, with_rests
from growalong.standings import PlainPlay, outcomes_of

MOST_PLACES = 6


def plain_outcomes(program):
    """The ascending list of all outcomes if all machines have one memory."""
    return outcomes_of(PlainPlay(program))


def not_plain(web, program):
    """The least outcome on a web that is none with one memory, None if there is none."""
    check_codes(web, program)
    return first_not_among(plain_outcomes(program), outcomes(web, program))


def first_not_among(plain, told):
    """The first of some outcomes that is not a plain one, None if there is none."""
    known = {outcome: True for outcome in plain}
    for outcome in told:
        if outcome not in known:
            return outcome
    return None


def fewest_rests(web, program):
    """The least tuple of the fewest places behind which rests leave plain outcomes only; None if there is none."""
    check_codes(web, program)
    places = waits_of(program)
    if len(places) > MOST_PLACES:
        raise TooMany(MOST_PLACES)
    plain = plain_outcomes(program)
    for many in range(len(places) + 1):
        for lot in combinations(places, many):
            if first_not_among(plain, outcomes(web, with_rests(program, lot))) is None:
                return lot
    return None
