"""The equations of boxes: a right strand is a weighed sum of the left ones, a lag's one place later."""

from lagworks.parts import LAG
from lagworks.sums import trimmed


def weights_of(box):
    """For each right end of a box the numbers by which its left strands are weighed."""
    word = box[0]
    if word == "weigh":
        return [box[1:]]
    if word == "copy":
        return [(1,)] * box[1]
    if word == "sum":
        return [(1,) * box[1]]
    if word == "mix":
        return list(box[1])
    if word == "shuffle":
        return [[1 if end == left else 0 for end in range(len(box[1]))] for left in box[1]]
    return [(1,)]


def box_rows(box, prime):
    """The equations of a box, on its left ends and behind them its right ones."""
    told = (0, prime - 1) if box == LAG else (prime - 1,)
    weights = weights_of(box)
    found = []
    for place, numbers in enumerate(weights):
        front = [trimmed([number % prime]) for number in numbers]
        found.append(tuple(front + [told if end == place else () for end in range(len(weights))]))
    return found
