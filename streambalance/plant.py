"""What one line of calls keeps: the sheet, and what is measured of it."""

from streambalance.balance import Balance
from streambalance.sheettext import OUTSIDE

QUANTITIES = 3


class Plant:
    def __init__(self):
        self.lay_out([], [OUTSIDE])

    def lay_out(self, streams, nodes):
        self.streams = streams
        self.nodes = nodes
        self.measured = [[None] * len(streams) for quantity in range(QUANTITIES)]

    # For each stream its value and weight, or None if it is not measured.
    def measurements(self, quantity):
        return self.measured[quantity - 1]

    def set_measured(self, quantity, stream, known):
        self.measured[quantity - 1][stream - 1] = known

    # For each stream its first and its second node.
    def stream_ends(self):
        return [(first, second) for name, first, second in self.streams]

    def balance(self, quantity):
        return Balance(len(self.nodes), self.stream_ends(), self.measurements(quantity))
