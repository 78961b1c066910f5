"""Search by halves among very many rows."""


def row_of(count_ahead, rows, number):
    """Return the row in which the thing with a number stands, where things are counted through the rows.

    count_ahead(row) tells how many things stand in the rows ahead of a row. There are at least number + 1 things
    in all the rows.
    """
    low, high = 0, rows
    while high - low > 1:
        middle = (low + high) // 2
        if count_ahead(middle) <= number:
            low = middle
        else:
            high = middle
    return low
