"""The checks of arguments that several files have in common."""

from stridelanes.errors import InvalidArray, InvalidNumber, Racing
from stridelanes.statements import is_array_name

MOST_LANES = 32


def check_wave(wave):
    """Raise InvalidNumber if no wave has so many lanes."""
    if wave < 1 or wave > MOST_LANES:
        raise InvalidNumber(wave)


def check_statement_number(kernel, statement):
    """Raise InvalidNumber if a kernel has no statement with a number."""
    if statement < 0 or statement >= len(kernel):
        raise InvalidNumber(statement)


def check_two_statements(kernel, u, v):
    """Raise InvalidNumber for the first of two numbers of statements that is wrong; the second one is greater."""
    check_statement_number(kernel, u)
    check_statement_number(kernel, v)
    if v <= u:
        raise InvalidNumber(v)


def check_number_of_wave(kernel, wave, number):
    """Raise InvalidNumber if a kernel has no wave with a number."""
    if number < 0 or wave * number >= kernel.lanes:
        raise InvalidNumber(number)


def check_array(array):
    """Raise InvalidArray if a string is no name of an array."""
    if not is_array_name(array):
        raise InvalidArray(array)


def check_racing(kernel):
    """Raise Racing with the accesses of the first harmful race of a kernel, if it has one."""
    pair = kernel.racing
    if pair != ():
        raise Racing(pair)
