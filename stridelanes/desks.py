"""Desks: kernels that change."""

from stridelanes.checks import check_statement_number
from stridelanes.errors import InvalidBarrier, NothingToUndo
from stridelanes.kernels import Kernel
from stridelanes.races import total_races
from stridelanes.readings import read_kernel


def without_statement(kernel, number):
    """Return a kernel without the statement with a number."""
    statements = kernel.statements
    del statements[number]
    moved = [barrier - 1 if barrier > number else barrier for barrier in kernel.barriers]
    return Kernel(kernel.lanes, statements, sorted({barrier for barrier in moved if 0 < barrier < len(statements)}))


class Desk:
    """A kernel that changes, and what it was before."""

    def __init__(self, lanes):
        self._kernel = Kernel(lanes, [])
        self._races = 0
        self._past = []

    @property
    def kernel(self):
        """The present kernel."""
        return self._kernel

    def __eq__(self, other):
        return isinstance(other, Desk) and self._kernel == other._kernel

    def add(self, statement):
        """Add a statement at the end; return how many races there were and how many there are."""
        kernel = self._kernel
        return self._change(Kernel(kernel.lanes, kernel.statements + [statement], kernel.barriers))

    def put_barrier(self, place):
        """Add a barrier ahead of the statement with a number; return the numbers of races before and after."""
        kernel = self._kernel
        barriers = kernel.barriers
        if place < 1 or place >= len(kernel) or place in barriers:
            raise InvalidBarrier(place)
        return self._change(kernel.with_barriers(sorted(barriers + [place])))

    def take(self, number):
        """Take the statement with a number away; return the numbers of races before and after."""
        check_statement_number(self._kernel, number)
        return self._change(without_statement(self._kernel, number))

    def undo(self):
        """Take back the last change."""
        if not self._past:
            raise NothingToUndo(0)
        self._kernel, self._races = self._past.pop()

    @classmethod
    def of_text(cls, text):
        """Return a desk with the kernel of a text."""
        kernel = read_kernel(text)
        desk = cls(kernel.lanes)
        desk._kernel = kernel
        desk._races = total_races(kernel)
        return desk

    def _change(self, kernel):
        """Go on with another kernel; return the numbers of races before and after."""
        before, after = self._races, total_races(kernel)
        self._past.append((self._kernel, before))
        self._kernel, self._races = kernel, after
        return (before, after)
