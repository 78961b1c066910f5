"""Sums over very many integers at once."""


def sum_of_quotients(many, divisor, factor, start):
    """Return the sum of (factor * k + start) // divisor for k from 0 on, below many. The divisor is at least 1."""
    total = 0
    while many > 0:
        total += many * (many - 1) // 2 * (factor // divisor) + many * (start // divisor)
        factor, start = factor % divisor, start % divisor
        # What is left are the points with whole numbers below a line. Counted along the other axis they are such
        # a sum again, with lesser numbers, as in Euclid's algorithm.
        top = factor * many + start
        many, start = top // divisor, top % divisor
        divisor, factor = factor, divisor
    return total
