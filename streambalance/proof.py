"""Whether flows and numbers of nodes prove one another: no lesser change would do then."""

from streambalance.balance import direction
from streambalance.fraction import NOTHING
from streambalance.fraction import minus
from streambalance.fraction import plus
from streambalance.fraction import times


def node_balances(node, ends, flows):
    inflow = NOTHING
    for pair, flow in zip(ends, flows):
        inflow = plus(inflow, times(flow, direction(pair, node)))
    return inflow == NOTHING


def stream_agrees(known, flow, rise):
    if known is None:
        return rise == NOTHING
    value = known[0]
    weight = known[1]
    return times(minus(flow, (value, 1)), weight) == rise


def is_proof(ends, measured, flows, numbers):
    if numbers[0] != NOTHING:
        return False
    for node in range(1, len(numbers)):
        if not node_balances(node, ends, flows):
            return False
    for pair, known, flow in zip(ends, measured, flows):
        if not stream_agrees(known, flow, minus(numbers[pair[1]], numbers[pair[0]])):
            return False
    return True
