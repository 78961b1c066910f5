"""Marks that come again with a period.

An integer is marked if its remainder by the period is in the list of marks, which ascend.
"""


def count_marked(marks, period, end):
    """Return how many integers from 0 on, below end, are marked."""
    left = end % period
    return end // period * len(marks) + len([mark for mark in marks if mark < left])


def nth_marked(marks, period, number):
    """Return the marked integer with a number, ascending, counted from 0 at the integer 0."""
    return number // len(marks) * period + marks[number % len(marks)]
