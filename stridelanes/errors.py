"""The errors of the program."""


class StrideError(ValueError):
    """Anything that the program refuses."""

    def __init__(self, value):
        self.value = value


class InvalidGuard(StrideError):
    """A tuple that is no guard."""


class InvalidLanes(StrideError):
    """A number of lanes that no kernel has."""


class InvalidStatement(StrideError):
    """The number of a statement that is none."""


class InvalidBarrier(StrideError):
    """A barrier that cannot stand where it should."""


class InvalidAccess(StrideError):
    """A number that no access has, or the second access of a pair in the wrong order."""


class InvalidNumber(StrideError):
    """A number outside of what may be asked for."""


class InvalidArray(StrideError):
    """A string that is no name of an array."""


class InvalidSchedule(StrideError):
    """The number of a wrong entry of a schedule, or None for a schedule that ends too early."""


class UnlikeLanes(StrideError):
    """Two kernels with different numbers of lanes."""


class Racing(StrideError):
    """The two accesses of a harmful race."""


class NotPlain(StrideError):
    """The number of a statement that is no put."""


class NothingToUndo(StrideError):
    """No call is left to take back."""


class Unreadable(StrideError):
    """A text that no guard or no kernel has."""
