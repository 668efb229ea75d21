"""Sheets: rows of whole numbers that tell how the heights of a net hang on one another, and how they are solved."""

from splitstream.fractions import common_divisor, made


# An ease is one by a hardness; times this number, each of the pipes' eases is whole.
def scale_of(pipes):
    scale = 1
    for start, end, hardness in pipes:
        scale = scale * hardness[0] // common_divisor(scale, hardness[0])
    return scale


def scaled_ease(hardness, scale):
    return scale // hardness[0] * hardness[1]


# How much more flows away from the one place for each unit that the other is higher.
def entry(pipes, scale, one, other):
    if one == other:
        return sum([scaled_ease(hardness, scale) for start, end, hardness in pipes if one in (start, end)])
    ways = ((one, other), (other, one))
    return -sum([scaled_ease(hardness, scale) for start, end, hardness in pipes if (start, end) in ways])


def sheet_row(pipes, scale, one, places):
    return [entry(pipes, scale, one, other) for other in places]


# One place of each part has to be missing from the places: only then the rows settle all heights.
def sheet_of(pipes, scale, places):
    return [sheet_row(pipes, scale, one, places) for one in places]


def row_without(row, by, at, divisor):
    return [(by[at] * mine - row[at] * its) // divisor for mine, its in zip(row, by)]


# Rids each row of the columns of all others. The division always comes out even (Bareiss), so the numbers stay
# whole and short, and in the end the own number of every row is the same one, the determinant. On the way no own
# number is 0, since a sheet of eases with a place of each part missing is positive definite.
def cleared(rows):
    result = rows
    divisor = 1
    for at in range(len(rows)):
        by = result[at]
        result = [
            row if number == at else row_without(row, by, at, divisor)
            for number, row in enumerate(result)]
        divisor = by[at]
    return result


def determinant(rows):
    return cleared(rows)[0][0] if len(rows) > 0 else 1


def solved(rows, amounts):
    done = cleared([row + [amount] for row, amount in zip(rows, amounts)])
    return [made(row[len(rows)], row[at]) for at, row in enumerate(done)]
