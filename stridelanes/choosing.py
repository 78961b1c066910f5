"""Choosing: the doings of the accesses and statements that a caller asks about, without those of all others."""

from stridelanes.doings import Doing, doings_of_statement, may_race, rivals_between
from stridelanes.errors import InvalidAccess
from stridelanes.statements import ACCESSES, count_up_to

MOST_ACCESSES = 3


def doing_at(kernel, number):
    """Return the doing of the access with a number; raise InvalidAccess if there is none."""
    left = number
    for at, statement in enumerate(kernel.statements):
        places = ACCESSES[statement[0]]
        if 0 <= left < len(places):
            return Doing(number, statement, places[left], count_up_to(kernel.barriers, at))
        left -= len(places)
    raise InvalidAccess(number)


def two_doings(kernel, e, f):
    """Return a tuple of the doings of two accesses; raise InvalidAccess for the first number that is wrong."""
    one, other = doing_at(kernel, e), doing_at(kernel, f)
    if f < e:
        raise InvalidAccess(f)
    return (one, other)


def are_rivals_in_phase(one, other):
    """Tell whether two doings are rivals in one phase."""
    return one.phase == other.phase and may_race(one, other)


def rivals_of_two(kernel, u, v):
    """Return the list of all rivals of two statements, numbered as if no others stood ahead of them."""
    statements = kernel.statements
    return rivals_between(doings_of_statement(statements[u]), doings_of_statement(statements[v], MOST_ACCESSES))
