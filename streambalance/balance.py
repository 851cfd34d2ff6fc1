"""The balanced flows of one quantity, and the numbers of nodes that prove them.

Nodes are numbered from 0 (outside), streams are places in lists from 0. The ends of a stream are
its first and its second node; what is measured of it is a value and a weight, or None.
Outside needs no equation of its own: it balances whenever all other nodes do.
"""

from streambalance.fraction import NOTHING
from streambalance.fraction import common_divisor
from streambalance.fraction import minus
from streambalance.fraction import over
from streambalance.fraction import plus
from streambalance.fraction import square
from streambalance.fraction import times
from streambalance.linear import solved


# For each node the least node that hangs together with it by the pairs.
def least_joined(size, pairs):
    labels = list(range(size))
    for first, second in pairs:
        low = min(labels[first], labels[second])
        high = max(labels[first], labels[second])
        labels = [low if label == high else label for label in labels]
    return labels


# 1 if what runs between these ends flows into the node, -1 if out of it, 0 if neither or both.
def direction(ends, node):
    inward = 1 if ends[1] == node else 0
    outward = 1 if ends[0] == node else 0
    return inward - outward


def common_multiple(weights):
    result = 1
    for weight in weights:
        result = result // common_divisor(result, weight) * weight
    return result


# Of each measured stream its ends, its value and its weight.
def measured_links(ends, measured):
    return [(pair, known[0], known[1]) for pair, known in zip(ends, measured) if known is not None]


# What flows into the node by the values, less what flows out of it.
def net_inflow(node, links):
    return sum([direction(ends, node) * value for ends, value, weight in links])


# That the group of nodes balances, told of the unknown groups' numbers. All is multiplied by
# scale, a multiple of each weight, so that the equation is one of whole numbers.
def balance_row(group, unknown, links, scale):
    factors = []
    for other in unknown:
        factors.append(sum([
            direction(ends, group) * direction(ends, other) * (scale // weight) for ends, value, weight in links
        ]))
    return factors + [-net_inflow(group, links) * scale]


# Nodes that streams which are not measured join have one number, so these groups stand in the
# equations like single nodes. The least group of all that hang together has 0.
def node_numbers(size, ends, measured):
    groups = least_joined(size, [pair for pair, known in zip(ends, measured) if known is None])
    whole = least_joined(size, ends)
    links = measured_links([(groups[first], groups[second]) for first, second in ends], measured)
    unknown = [node for node in range(size) if groups[node] == node and whole[node] != node]
    scale = common_multiple([weight for pair, value, weight in links])
    found = solved([balance_row(group, unknown, links, scale) for group in unknown])
    by_group = dict(zip(unknown, found))
    return [by_group.get(group, NOTHING) for group in groups]


class Balance:
    def __init__(self, size, ends, measured):
        self.size = size
        self.ends = ends
        self.measured = measured
        self.numbers = node_numbers(size, ends, measured)

    def is_measured(self, stream):
        return self.measured[stream] is not None

    def rise(self, stream):
        return minus(self.numbers[self.ends[stream][1]], self.numbers[self.ends[stream][0]])

    def least_change(self):
        change = NOTHING
        for stream, known in enumerate(self.measured):
            if known is not None:
                change = plus(change, over(square(self.rise(stream)), known[1]))
        return change

    # For each node the least node that streams which are not measured join it to, this one left out.
    def groups_without(self, stream):
        pairs = [
            pair for place, pair in enumerate(self.ends) if place != stream and not self.is_measured(place)
        ]
        return least_joined(self.size, pairs)

    # Whether the flow is told by the other streams: it is unless the stream closes a ring of
    # streams that are not measured, round which any flow might run.
    def is_told_by_others(self, stream):
        groups = self.groups_without(stream)
        return groups[self.ends[stream][0]] != groups[self.ends[stream][1]]

    def measured_flow(self, stream):
        value = self.measured[stream][0]
        weight = self.measured[stream][1]
        return plus((value, 1), over(self.rise(stream), weight))

    # Into the nodes behind the stream nothing but it and measured streams flow, so it
    # brings in what the measured ones take out.
    def told_flow(self, stream):
        groups = self.groups_without(stream)
        behind = groups[self.ends[stream][1]]
        flow = NOTHING
        for place, pair in enumerate(self.ends):
            side = direction((groups[pair[0]], groups[pair[1]]), behind)
            if side != 0 and self.is_measured(place):
                flow = minus(flow, times(self.measured_flow(place), side))
        return flow

    # The flow as adjust tells it, or None if it is not known.
    def flow(self, stream):
        if self.is_measured(stream):
            return self.measured_flow(stream)
        if self.is_told_by_others(stream):
            return self.told_flow(stream)
        return None

    def can_be_checked(self, stream):
        return self.is_measured(stream) and self.is_told_by_others(stream)

    # A sort, as adjust answers it, and the flow that goes with it.
    def sort_and_flow(self, stream):
        flow = self.flow(stream)
        if flow is None:
            return (0, NOTHING)
        if not self.is_measured(stream):
            return (3, flow)
        return (2 if self.can_be_checked(stream) else 1, flow)

    # The balance that there were if the stream were not measured. The list is copied: it is the plant's own.
    def without(self, stream):
        measured = list(self.measured)
        measured[stream] = None
        return Balance(self.size, self.ends, measured)
