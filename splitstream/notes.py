"""Notes: nets as texts, one row for the places and one for each pipe."""

from splitstream.errors import BadRow
from splitstream.nets import Net, is_net


def first_row(places):
    return f"places {places}"


def hardness_text(hardness):
    first = hardness[0]
    second = hardness[1]
    return f"{first}" if second == 1 else f"{first}/{second}"


def pipe_row(pipe):
    one = pipe[0]
    other = pipe[1]
    hardness = hardness_text(pipe[2])
    return f"{one}-{other} {hardness}"


def written(net):
    return "\n".join([first_row(net.size)] + [pipe_row(pipe) for pipe in net.pipes()])


def number_in(text):
    try:
        return int(text)
    except ValueError:
        return None


# More is taken for a number here than is written for one, such as a sign or a nought ahead; a row that holds such a
# number isn't the row that is written of what was read, and by that it is refused.
def numbers_in(text, sign):
    return [number_in(piece) for piece in text.split(sign)]


def places_in(row):
    return number_in(row.partition(" ")[2])


def pipe_in(row):
    halves = row.partition(" ")
    places = numbers_in(halves[0], "-")
    hardness = numbers_in(halves[2], "/")
    if len(hardness) == 1:
        hardness = hardness + [1]
    return tuple(places + [tuple(hardness)])


def read(text):
    rows = text.split("\n")
    places = places_in(rows[0])
    if not is_net(places, []) or first_row(places) != rows[0]:
        raise BadRow(1)
    pipes = []
    for number, row in enumerate(rows[1:], start=2):
        pipe = pipe_in(row)
        pipes.append(pipe)
        if not is_net(places, pipes) or pipe_row(pipe) != row:
            raise BadRow(number)
    return Net(places, pipes)
