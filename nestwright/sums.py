"""Sums with unknown ones: numbers that meet all of them, or weights that show that none do."""

from nestwright.fractions import fraction
from nestwright.polys import over_one_bottom


def whole_row(row):
    """A row's fractions, the due last, all multiplied with one whole number that makes them whole."""
    some, due = row
    tops, bottom = over_one_bottom(list(some) + [due])
    return tops


def cleared(row, by, column, last):
    """A row with 0 at the column, by the row that is taken for that column."""
    # What comes is a determinant times the last pivot, so nothing is left over.
    return [(by[column] * top - row[column] * other) // last for top, other in zip(row, by)]


def first_with(rows, column):
    """The place of the first row that isn't 0 at the column, or None."""
    for at, row in enumerate(rows):
        if row[column] != 0:
            return at
    return None


def numbers(rows):
    """A fraction for each unknown one by which each row comes to its due, or None."""
    left = [whole_row(row) for row in rows]
    many = len(left[0]) - 1
    taken_rows, columns, last = [], [], 1
    for column in range(many):
        at = first_with(left, column)
        if at is None:
            continue
        by = left.pop(at)
        left = [cleared(row, by, column, last) for row in left]
        taken_rows = [cleared(row, by, column, last) for row in taken_rows] + [by]
        columns.append(column)
        last = by[column]
    if any([row[many] != 0 for row in left]):
        return None
    told = [(0, 1)] * many
    for column, row in zip(columns, taken_rows):
        told[column] = fraction(row[many], last)
    return tuple(told)


def turned_about(rows):
    """The sums whose unknown ones are weights of these rows, the dues to come to 1."""
    many = len(rows[0][0])
    told = [(tuple([some[column] for some, due in rows]), (0, 1)) for column in range(many)]
    return told + [(tuple([due for some, due in rows]), (1, 1))]


def solved(rows):
    """("numbers", some) for the unknown ones, or ("weights", some) for the rows."""
    some = numbers(rows)
    if some is not None:
        return ("numbers", some)
    return ("weights", numbers(turned_about(rows)))
