"""Readings: guards and kernels from their texts."""

from stridelanes.errors import InvalidBarrier, InvalidLanes, InvalidStatement, Unreadable
from stridelanes.guards import is_guard
from stridelanes.kernels import Kernel
from stridelanes.statements import ARRAYS, ITEMS

MOST_DIGITS = 100


def integer_of(word):
    """Return the integer with a text, or None if no integer has it."""
    digits = word[1:] if word[:1] == "-" else word
    if not 1 <= len(digits) <= MOST_DIGITS or not all(["0" <= digit <= "9" for digit in digits]):
        return None
    # Only 0 begins with a zero, and there is no -0.
    if digits[0] == "0" and word != "0":
        return None
    return int(word)


def four_integers_of(word):
    """Return the tuple of four integers with a text, guard or none, or None if there is no such tuple."""
    numbers = [integer_of(part) for part in word.split(":")]
    return None if len(numbers) != 4 or None in numbers else tuple(numbers)


def statement_of(text):
    """Return the tuple of items with the text of a statement, or None if some item does not have its form."""
    words = text.split(" ")
    word = words[0]
    if word not in ITEMS or len(words) != ITEMS[word]:
        return None
    items = [word, four_integers_of(words[1])]
    for place in range(2, len(words)):
        items.append(words[place] if place in ARRAYS[word] else integer_of(words[place]))
    return None if None in items else tuple(items)


def read_guard(text):
    """Return the guard with a text."""
    guard = four_integers_of(text)
    if guard is None or not is_guard(guard):
        raise Unreadable(text)
    return guard


def read_kernel(text):
    """Return the kernel with a text."""
    first, *parts = text.split("; ")
    word, _, number = first.partition(" ")
    lanes = integer_of(number) if word == "lanes" else None
    statements, barriers = [], []
    for part in parts:
        if part == "barrier":
            barriers.append(len(statements))
        else:
            statements.append(statement_of(part))
    if lanes is None or None in statements:
        raise Unreadable(text)
    try:
        return Kernel(lanes, statements, barriers)
    except (InvalidLanes, InvalidStatement, InvalidBarrier):
        raise Unreadable(text) from None
