"""Kernels: statements that many lanes do at once, with barriers between them."""

from stridelanes.errors import InvalidBarrier, InvalidLanes, InvalidNumber, InvalidStatement, UnlikeLanes
from stridelanes.guards import is_guard

# How many items the statements with a word have.
ITEMS = {"put": 7, "move": 9, "sum": 11}

# At which items their arrays stand: the one that is written, then those that are read.
# Behind each array stand the a and the b of its cell.
ARRAYS = {"put": (2,), "move": (2, 5), "sum": (2, 5, 8)}

# At which items the pairs stand that mean a * lane + b.
PAIRS = {"put": (3, 5), "move": (3, 6), "sum": (3, 6, 9)}


def is_array_name(name):
    """Tell whether a string is the name of an array."""
    return 1 <= len(name) <= 8 and all(["a" <= letter <= "z" for letter in name])


def is_statement(statement, lanes):
    """Tell whether a tuple is a statement of a kernel with so many lanes."""
    word = statement[0]
    if word not in ITEMS or len(statement) != ITEMS[word]:
        return False
    if not all([is_array_name(statement[place]) for place in ARRAYS[word]]):
        return False
    guard = statement[1]
    return is_guard(guard) and guard[1] <= lanes


def check_lanes(lanes):
    """Raise InvalidLanes if no kernel has so many lanes."""
    if lanes < 1:
        raise InvalidLanes(lanes)


def check_statement(statement, number, lanes):
    """Raise InvalidStatement if a tuple, with its number, is no statement of a kernel with so many lanes."""
    if not is_statement(statement, lanes):
        raise InvalidStatement(number)


def check_barriers(barriers, many):
    """Raise InvalidBarrier for the first wrong one of the barriers between so many statements."""
    before = 0
    for number, barrier in enumerate(barriers):
        if barrier <= before or barrier >= many:
            raise InvalidBarrier(number)
        before = barrier


def mirrored_guard(guard, lanes):
    """Return the guard that has the lane lanes - 1 - i for each lane i of a guard."""
    low, high, step, rest = guard
    return (lanes - high, lanes - low, step, (lanes - 1 - rest) % step)


def mirrored_statement(statement, lanes):
    """Return the statement in which the lane lanes - 1 - i does what the lane i does in a statement."""
    items = list(statement)
    items[1] = mirrored_guard(statement[1], lanes)
    for place in PAIRS[statement[0]]:
        a, b = statement[place], statement[place + 1]
        items[place] = -a
        items[place + 1] = b + a * (lanes - 1)
    return tuple(items)


class Kernel:
    """A number of lanes, statements that they do, and barriers between the statements."""

    def __init__(self, lanes, statements, barriers=()):
        check_lanes(lanes)
        for number, statement in enumerate(statements):
            check_statement(statement, number, lanes)
        check_barriers(barriers, len(statements))
        self._lanes = lanes
        self._statements = list(statements)
        self._barriers = list(barriers)

    @property
    def lanes(self):
        """The number of lanes."""
        return self._lanes

    @property
    def statements(self):
        """A new list of the statements."""
        return list(self._statements)

    @property
    def barriers(self):
        """A new list of the barriers."""
        return list(self._barriers)

    def __len__(self):
        return len(self._statements)

    def __eq__(self, other):
        return (isinstance(other, Kernel) and self._lanes == other._lanes
                and self._statements == other._statements and self._barriers == other._barriers)

    def __add__(self, other):
        if self._lanes != other._lanes:
            raise UnlikeLanes(None)
        many = len(self._statements)
        between = [many] if many > 0 and len(other._statements) > 0 else []
        behind = [many + barrier for barrier in other._barriers]
        return Kernel(self._lanes, self._statements + other._statements, self._barriers + between + behind)

    def mirrored(self):
        """Return the kernel in which the last lane does what the first one does here, and so on."""
        statements = [mirrored_statement(statement, self._lanes) for statement in self._statements]
        return Kernel(self._lanes, statements, self._barriers)

    def with_barriers(self, barriers):
        """Return the kernel with other barriers."""
        return Kernel(self._lanes, self._statements, barriers)


def access_at(statement, number, word, place):
    """Return the access with a word to the array that stands at a place in the statement with a number."""
    return (number, word, statement[place], statement[place + 1], statement[place + 2])


def accesses(kernel):
    """Return the list of all accesses of a kernel: of each statement its reads, then its write."""
    found = []
    for number, statement in enumerate(kernel.statements):
        written, *sources = ARRAYS[statement[0]]
        for place in sources:
            found.append(access_at(statement, number, "read", place))
        found.append(access_at(statement, number, "write", written))
    return found


def phase_of(kernel, statement):
    """Return the number of barriers that are not greater than the number of a statement."""
    if statement < 0 or statement >= len(kernel):
        raise InvalidNumber(statement)
    return len([barrier for barrier in kernel.barriers if barrier <= statement])
