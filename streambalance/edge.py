"""The streams at the edge of some nodes: those that flow into them from elsewhere, or out of them."""

from streambalance.fraction import NOTHING
from streambalance.fraction import plus


def streams_into(ends, nodes):
    return [stream for stream, pair in enumerate(ends) if pair[1] in nodes and pair[0] not in nodes]


def streams_out_of(ends, nodes):
    return [stream for stream, pair in enumerate(ends) if pair[0] in nodes and pair[1] not in nodes]


# The sum of the streams' flows, or None if one of them is not known.
def flow_sum(balance, streams):
    total = NOTHING
    for stream in streams:
        flow = balance.flow(stream)
        if flow is None:
            return None
        total = plus(total, flow)
    return total
