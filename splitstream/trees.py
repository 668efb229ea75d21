"""Trees: full choices of pipes, their weights, and each pipe's share in them."""

from splitstream.errors import NoPipe
from splitstream.fractions import made, over
from splitstream.nets import Net, counts_one_of, without_pipe
from splitstream.sheets import determinant, scale_of, sheet_of
from splitstream.streams import stream


# The matrix-tree theorem: the sum over all full choices is the determinant of the eases' sheet, in which one place
# of each part is missing.
def weight(net):
    pipes = net.pipes()
    scale = scale_of(pipes)
    least = [part[0] for part in net.parts()]
    places = [place for place in range(net.size) if place not in least]
    result = made(determinant(sheet_of(pipes, scale, places)), 1)
    # The sheet's eases are scaled, and each of its rows brings that scale into the determinant once.
    for place in places:
        result = over(result, (scale, 1))
    return result


# With hardnesses of 1 each full choice weighs 1.
def trees(net):
    evened = Net(net.size, [(start, end, (1, 1)) for start, end, hardness in net.pipes()])
    return weight(evened)[0]


# Kirchhoff's theorem: of the stream of one between a pipe's places the pipe takes just its share.
def share(net, at):
    pipes = net.pipes()
    if not counts_one_of(at, len(pipes)):
        raise NoPipe("this is no pipe of the net")
    pipe = pipes[at]
    return stream(net, pipe[0], pipe[1]).flows[at]


def is_bridge(net, at):
    pipe = net.pipes()[at]
    return pipe[1] not in without_pipe(net, at).part(pipe[0])


# All weights are above 0, so the share is 1 just where no full choice can do without the pipe.
def bridges(net):
    return [at for at in range(len(net.pipes())) if is_bridge(net, at)]
