"""Texts of guards and kernels."""


def show_guard(guard):
    """Return the text of a guard: its four integers with colons between."""
    return ":".join([str(number) for number in guard])


def show_statement(statement):
    """Return the text of a statement: its items with spaces between."""
    word, guard, *items = statement
    return " ".join([word, show_guard(guard)] + [str(item) for item in items])


def show_kernel(kernel):
    """Return the text of a kernel: its number of lanes, then its statements and barriers."""
    parts = [f"lanes {kernel.lanes}"]
    barriers = kernel.barriers
    for number, statement in enumerate(kernel.statements):
        if number in barriers:
            parts.append("barrier")
        parts.append(show_statement(statement))
    return "; ".join(parts)
