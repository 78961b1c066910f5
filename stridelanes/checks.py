"""The checks of arguments that several files have in common."""

from stridelanes.errors import InvalidAccess, InvalidNumber
from stridelanes.kernels import accesses

MOST_LANES = 32


def check_wave(wave):
    """Raise InvalidNumber if no wave has so many lanes."""
    if wave < 1 or wave > MOST_LANES:
        raise InvalidNumber(wave)


def check_access(kernel, number):
    """Raise InvalidAccess if a kernel has no access with a number."""
    if number < 0 or number >= len(accesses(kernel)):
        raise InvalidAccess(number)


def check_pair(kernel, e, f):
    """Raise InvalidAccess for the first of two numbers of accesses that is wrong."""
    check_access(kernel, e)
    check_access(kernel, f)
    if f < e:
        raise InvalidAccess(f)


def check_statement_number(kernel, statement):
    """Raise InvalidNumber if a kernel has no statement with a number."""
    if statement < 0 or statement >= len(kernel):
        raise InvalidNumber(statement)


def check_two_statements(kernel, u, v):
    """Raise InvalidNumber for the first of two numbers of statements that is wrong; the second one is greater."""
    check_statement_number(kernel, u)
    check_statement_number(kernel, v)
    if v <= u:
        raise InvalidNumber(v)


def check_number_of_wave(kernel, wave, number):
    """Raise InvalidNumber if a kernel has no wave with a number."""
    if number < 0 or wave * number >= kernel.lanes:
        raise InvalidNumber(number)
