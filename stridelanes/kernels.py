"""Kernels: statements that many lanes do at once, with barriers between them."""

from stridelanes.doings import racing_pair, rivals_in_phases
from stridelanes.errors import InvalidBarrier, InvalidLanes, InvalidNumber, InvalidStatement, UnlikeLanes
from stridelanes.statements import accesses_of, count_up_to, is_statement, mirrored_statement


def check_lanes(lanes):
    """Raise InvalidLanes if no kernel has so many lanes."""
    if lanes < 1:
        raise InvalidLanes(lanes)


def check_statement(statement, number, lanes):
    """Raise InvalidStatement if a tuple, with its number, is no statement of a kernel with so many lanes."""
    if not is_statement(statement, lanes):
        raise InvalidStatement(number)


def check_barriers(barriers, many):
    """Raise InvalidBarrier for the first wrong one of the barriers between so many statements."""
    before = 0
    for number, barrier in enumerate(barriers):
        if barrier <= before or barrier >= many:
            raise InvalidBarrier(number)
        before = barrier


class Kernel:
    """A number of lanes, statements that they do, and barriers between the statements."""

    def __init__(self, lanes, statements, barriers=()):
        check_lanes(lanes)
        for number, statement in enumerate(statements):
            check_statement(statement, number, lanes)
        check_barriers(barriers, len(statements))
        self._lanes = lanes
        self._statements = list(statements)
        self._barriers = list(barriers)
        self._racing = None

    @property
    def lanes(self):
        """The number of lanes."""
        return self._lanes

    @property
    def statements(self):
        """A new list of the statements."""
        return list(self._statements)

    @property
    def barriers(self):
        """A new list of the barriers."""
        return list(self._barriers)

    @property
    def racing(self):
        """The accesses (e, f) of the first harmful race, the empty tuple if there is none."""
        if self._racing is None:
            self._racing = racing_pair(rivals_in_phases(self._statements, self._barriers))
        return self._racing

    def __len__(self):
        return len(self._statements)

    def __eq__(self, other):
        return (isinstance(other, Kernel) and self._lanes == other._lanes
                and self._statements == other._statements and self._barriers == other._barriers)

    def __add__(self, other):
        if self._lanes != other._lanes:
            raise UnlikeLanes(None)
        many = len(self._statements)
        between = [many] if many > 0 and len(other._statements) > 0 else []
        behind = [many + barrier for barrier in other._barriers]
        return Kernel(self._lanes, self._statements + other._statements, self._barriers + between + behind)

    def mirrored(self):
        """Return the kernel in which the last lane does what the first one does here, and so on."""
        statements = [mirrored_statement(statement, self._lanes) for statement in self._statements]
        return Kernel(self._lanes, statements, self._barriers)

    def with_barriers(self, barriers):
        """Return the kernel with other barriers."""
        return Kernel(self._lanes, self._statements, barriers)


def accesses(kernel):
    """Return the list of all accesses of a kernel: of each statement its reads, then its write."""
    return accesses_of(kernel.statements)


def phase_of(kernel, statement):
    """Return the number of barriers that are not greater than the number of a statement."""
    if statement < 0 or statement >= len(kernel):
        raise InvalidNumber(statement)
    return count_up_to(kernel.barriers, statement)
