"""Equations in whole numbers, solved exactly."""

from streambalance.fraction import lowest


# Each division leaves no rest: every number here is a determinant of some of the first rows
# and columns, and below is the one of the step before.
def cleared(rows, step, below):
    pivot_row = rows[step]
    pivot = pivot_row[step]
    result = []
    for place, row in enumerate(rows):
        if place == step:
            result.append(row)
        else:
            result.append([(pivot * own - row[step] * other) // below for own, other in zip(row, pivot_row)])
    return result


# Each row is an equation's factors and then its right side. The factors must be those of a
# positive definite matrix: then no pivot is ever 0 or less, and no rows need to be swapped.
def solved(rows):
    count = len(rows)
    below = 1
    for step in range(count):
        rows = cleared(rows, step, below)
        below = rows[step][step]
    return [lowest(row[count], below) for row in rows]
