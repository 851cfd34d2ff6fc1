"""imbalance, without, suspect, through, share and told against another way to reckon them."""

import random
import unittest
from fractions import Fraction

from helper import (expected_adjust, imbalance, measured_all, run, share, sheet, some_measured, some_sheet, suspect,
                    through, told, without)


class Expected:
    """What is to be answered of one quantity."""

    def __init__(self, nodes, ends, measured):
        self.nodes, self.ends, self.measured = nodes, ends, measured
        adjusted = expected_adjust(nodes, ends, measured)
        self.change = adjusted[1:3]
        self.sorts = adjusted[3::3]
        self.flows = [Fraction(*pair) for pair in zip(adjusted[4::3], adjusted[5::3])]

    def left_out(self, j):
        return Expected(self.nodes, self.ends, self.measured[:j] + [None] + self.measured[j + 1:])

    def imbalance(self):
        answer = [0] * (self.nodes + 1)
        for (first, second), pair in zip(self.ends, self.measured):
            if pair:
                answer[first] -= pair[0]
                answer[second] += pair[0]
        return [0] + answer[1:]

    def without(self, j):
        other = self.left_out(j)
        flow = other.flows[j]
        return [0, 1 if other.sorts[j] else 0, flow.numerator, flow.denominator] + other.change

    def suspect(self):
        changes = [(Fraction(*self.left_out(j).change), j) for j, sort in enumerate(self.sorts) if sort == 2]
        if not changes:
            return [0, 0]
        change, j = min(changes)
        return [0, j + 1, change.numerator, change.denominator]

    def through(self, nodes):
        inward = [j for j, (first, second) in enumerate(self.ends) if second in nodes and first not in nodes]
        outward = [j for j, (first, second) in enumerate(self.ends) if first in nodes and second not in nodes]
        count = len(inward + outward)
        if any(self.sorts[j] == 0 for j in inward + outward):
            return [0, count, 0]
        sums = [sum((self.flows[j] for j in side), Fraction(0)) for side in (inward, outward)]
        return [0, count, 1] + [part for one in sums for part in (one.numerator, one.denominator)]

    def share(self, other, j):
        if self.sorts[j] == 0 or other.sorts[j] == 0 or other.flows[j] == 0:
            return [-2]
        part = self.flows[j] / other.flows[j]
        return [0, part.numerator, part.denominator]

    def told(self):
        rows = [list(end) + ([1, *pair] if pair else [0, 0, 0]) for end, pair in zip(self.ends, self.measured)]
        return [0, len(self.ends)] + [number for row in rows for number in row]


class AgainstRings(unittest.TestCase):
    def compare(self, chance, most_nodes, most_streams, value, weight):
        text, nodes, ends = some_sheet(chance, most_nodes, most_streams)
        measured = [some_measured(chance, len(ends), value, weight) for k in (1, 2)]
        one, other = [Expected(nodes, ends, known) for known in measured]
        rows = [chance.sample(range(1, nodes + 1), chance.randrange(nodes + 1)) for turn in range(4)]
        streams = range(len(ends))
        calls = [imbalance(1), suspect(1), told(1), imbalance(2), told(2)]
        wanted = [one.imbalance(), one.suspect(), one.told(), other.imbalance(), other.told()]
        calls += [without(1, j + 1) for j in streams] + [through(1, row) for row in rows]
        wanted += [one.without(j) for j in streams] + [one.through(row) for row in rows]
        calls += [share(1, 2, j + 1) for j in streams] + [share(2, 1, j + 1) for j in streams]
        wanted += [one.share(other, j) for j in streams] + [other.share(one, j) for j in streams]
        given = [sheet(text)] + measured_all(1, measured[0]) + measured_all(2, measured[1])
        for call, answer, right in zip(calls, run(*given, *calls)[-len(calls):], wanted):
            self.assertEqual(answer, right, (text, measured, call))

    def test_small(self):
        chance = random.Random(7)
        for turn in range(150):
            self.compare(chance, 4, 6, 4, 2)

    def test_large(self):
        chance = random.Random(8)
        for turn in range(6):
            self.compare(chance, 8, 12, 1000000000, 1000000)


if __name__ == '__main__':
    unittest.main()
