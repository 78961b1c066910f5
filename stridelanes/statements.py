"""Statements: what a kernel lets the lanes of a guard do."""

from stridelanes.guards import is_guard

# How many items the statements with a word have.
ITEMS = {"put": 7, "move": 9, "sum": 11}

# At which items their arrays stand: the one that is written, then those that are read.
# Behind each array stand the a and the b of its cell.
ARRAYS = {"put": (2,), "move": (2, 5), "sum": (2, 5, 8)}

# At which item the array stands that is written.
WRITTEN = 2

# At which items the arrays of the accesses stand, in the order of their numbers.
ACCESSES = {"put": (2,), "move": (5, 2), "sum": (5, 8, 2)}

# At which items the pairs stand that mean a * lane + b.
PAIRS = {"put": (3, 5), "move": (3, 6), "sum": (3, 6, 9)}


def is_array_name(name):
    """Tell whether a string is the name of an array."""
    return 1 <= len(name) <= 8 and all(["a" <= letter <= "z" for letter in name])


def is_statement(statement, lanes):
    """Tell whether a tuple is a statement of a kernel with so many lanes."""
    word = statement[0]
    if word not in ITEMS or len(statement) != ITEMS[word]:
        return False
    if not all([is_array_name(statement[place]) for place in ARRAYS[word]]):
        return False
    guard = statement[1]
    return is_guard(guard) and guard[1] <= lanes


def mirrored_guard(guard, lanes):
    """Return the guard that has the lane lanes - 1 - i for each lane i of a guard."""
    low, high, step, rest = guard
    return (lanes - high, lanes - low, step, (lanes - 1 - rest) % step)


def mirrored_statement(statement, lanes):
    """Return the statement in which the lane lanes - 1 - i does what the lane i does in a statement."""
    items = list(statement)
    items[1] = mirrored_guard(statement[1], lanes)
    for place in PAIRS[statement[0]]:
        a, b = statement[place], statement[place + 1]
        items[place] = -a
        items[place + 1] = b + a * (lanes - 1)
    return tuple(items)


def access_at(statement, number, place):
    """Return the access to the array that stands at a place in the statement with a number."""
    word = "write" if place == WRITTEN else "read"
    return (number, word, statement[place], statement[place + 1], statement[place + 2])


def accesses_of(statements):
    """Return the list of all accesses of statements: of each one its reads, then its write."""
    return [access_at(statement, number, place) for number, statement in enumerate(statements)
            for place in ACCESSES[statement[0]]]


def count_up_to(barriers, statement):
    """Return how many barriers are not greater than the number of a statement."""
    return len([barrier for barrier in barriers if barrier <= statement])
