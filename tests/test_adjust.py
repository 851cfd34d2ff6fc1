"""adjust and numbers: by hand, and against another way to reckon them."""

import random
import unittest
from fractions import Fraction

from helper import (MOST, adjust, best_flows, check, expected_adjust, last, measure, measured_all, numbers, run, sheet,
                    some_measured, some_sheet, told_state)

SPLIT = 'feed:outside>mill,over:mill>outside,under:mill>cell,tail:cell>outside'


class Adjust(unittest.TestCase):
    def test_no_sheet_yet(self):
        self.assertEqual(run(adjust(1), numbers(3)), [[0, 0, 1], [0, 0, 1]])

    def test_nothing_measured(self):
        self.assertEqual(last(sheet(SPLIT), adjust(1)), [0, 0, 1] + [0, 0, 1] * 4)
        self.assertEqual(last(sheet(SPLIT), numbers(1)), [0] + [0, 1] * 3)

    def test_stream_that_must_be_nothing_is_known_and_can_be_checked(self):
        # No ring runs through it, so nothing can flow there.
        self.assertEqual(last(sheet('a:b>c'), adjust(1)), [0, 0, 1, 3, 0, 1])
        self.assertEqual(last(sheet('a:b>c'), measure(1, 1, 5, 3), adjust(1)), [0, 75, 1, 2, 0, 1])
        self.assertEqual(last(sheet('a:b>c'), measure(1, 1, 5, 3), numbers(1)), [0, 0, 1, 0, 1, -15, 1])
        self.assertEqual(last(sheet('a:outside>b'), measure(1, 1, 5, 3), numbers(1)), [0, 0, 1, -15, 1])
        self.assertEqual(last(sheet('a:b>outside'), measure(1, 1, 5, 3), numbers(1)), [0, 0, 1, 15, 1])

    def test_fully_measured(self):
        # 3 lie between the two, shared as 1 to 2: the weights are 2 and 1.
        given = [sheet('a:outside>b,c:b>outside'), measure(1, 1, 10, 2), measure(1, 2, 7, 1)]
        self.assertEqual(last(*given, adjust(1)), [0, 6, 1, 2, 9, 1, 2, 9, 1])
        self.assertEqual(last(*given, numbers(1)), [0, 0, 1, -2, 1])

    def test_fractions_in_lowest_terms(self):
        given = [sheet('a:outside>b,c:b>outside,d:b>outside')] + measured_all(1, [(10, 1), (4, 1), (4, 2)])
        # 2 too much, shared as 2 to 2 to 1.
        self.assertEqual(last(*given, adjust(1)), [0, 8, 5, 2, 46, 5, 2, 24, 5, 2, 22, 5])
        self.assertEqual(last(*given, numbers(1)), [0, 0, 1, -4, 5])

    def test_every_sort(self):
        text = ('a:outside>b,c:b>outside,d:b>e,f:e>outside,g:outside>h,i:h>outside,j:h>outside,'
                'k:outside>l,m:l>outside')
        values = [(10, 1), (4, 1), None, None, None, None, (3, 9), (8, 2), (8, 1)]
        given = [sheet(text)] + measured_all(2, values)
        self.assertEqual(last(*given, adjust(2)), [
            0, 0, 1, 1, 10, 1, 1, 4, 1, 3, 6, 1, 3, 6, 1, 0, 0, 1, 0, 0, 1, 1, 3, 1, 2, 8, 1, 2, 8, 1])

    def test_known_behind_what_was_changed(self):
        # 3 and 5 become 4 and 4; the stream that is not measured takes up no difference of theirs.
        given = [sheet('a:outside>b,c:b>d,e:d>outside')] + measured_all(1, [(3, 1), None, (5, 1)])
        self.assertEqual(last(*given, adjust(1)), [0, 2, 1, 2, 4, 1, 3, 4, 1, 2, 4, 1])

    def test_known_flow_may_be_below_nothing(self):
        given = [sheet(SPLIT)] + measured_all(1, [(3, 1), (5, 1), None, None])
        self.assertEqual(last(*given, adjust(1)), [0, 0, 1, 1, 3, 1, 1, 5, 1, 3, -2, 1, 3, -2, 1])

    def test_balanced_flow_may_be_below_nothing(self):
        given = [sheet('a:outside>b,c:outside>b')] + measured_all(1, [(4, 1), (0, 1)])
        self.assertEqual(last(*given, adjust(1)), [0, 8, 1, 2, 2, 1, 2, -2, 1])

    def test_largest_numbers(self):
        given = [sheet('a:outside>b,c:b>outside')] + measured_all(1, [(1000000000, 1000000), (0, 999999)])
        flow = Fraction(1000000000 * 1000000, 1999999)
        change = 1000000 * (1000000000 - flow) ** 2 + 999999 * flow ** 2
        pair = [flow.numerator, flow.denominator]
        self.assertEqual(last(*given, adjust(1)), [0, change.numerator, change.denominator, 2] + pair + [2] + pair)

    def test_wrong_quantity(self):
        before = [sheet(SPLIT), measure(1, 1, 5, 1)]
        for k in (0, 4, -1, MOST, -MOST):
            for call in (adjust(k), numbers(k)):
                self.assertEqual(last(*before, call), [-1])
                self.assertEqual(told_state(*before, call), told_state(*before))
                self.assertEqual(last(call), [-1])

    def test_asking_changes_nothing(self):
        before = [sheet(SPLIT), measure(1, 1, 5, 1), measure(1, 2, 5, 2)]
        self.assertEqual(told_state(*before, adjust(1), numbers(1)), told_state(*before))


class Numbers(unittest.TestCase):
    def test_least_of_nodes_apart_from_outside_has_nothing(self):
        # Outside stands alone; of the two rings the least nodes are 1 and 3.
        text = 'a:m>n,b:n>m,c:p>q,d:q>p'
        given = [sheet(text)] + measured_all(1, [(10, 1), (4, 1), (4, 1), (10, 1)])
        self.assertEqual(last(*given, numbers(1)), [0, 0, 1, 0, 1, -3, 1, 0, 1, 3, 1])

    def test_some_hang_together_with_outside(self):
        text = 'a:m>n,b:outside>p,c:n>m,d:p>outside'
        given = [sheet(text)] + measured_all(1, [(10, 1), (4, 1), (4, 1), (10, 1)])
        self.assertEqual(last(*given, numbers(1)), [0, 0, 1, 0, 1, -3, 1, 3, 1])

    def test_hang_together_by_streams_that_are_not_measured(self):
        # m and n have one number by c; it is not nothing, since outside hangs there too.
        text = 'a:outside>m,c:m>n,b:n>outside'
        given = [sheet(text)] + measured_all(1, [(10, 1), None, (4, 1)])
        self.assertEqual(last(*given, numbers(1)), [0, 0, 1, -3, 1, -3, 1])

    def test_outside_by_a_stream_that_is_not_measured(self):
        text = 'a:m>n,b:n>m,c:n>outside'
        given = [sheet(text)] + measured_all(1, [(10, 1), (4, 1), None])
        self.assertEqual(last(*given, numbers(1)), [0, 0, 1, 3, 1, 0, 1])

    def test_outside_named_last_has_nothing(self):
        text = 'a:m>n,b:n>m,c:n>outside'
        given = [sheet(text)] + measured_all(1, [(10, 1), (4, 1), (5, 1)])
        self.assertEqual(last(*given, numbers(1)), [0, 0, 1, 8, 1, 5, 1])


def as_fractions(row):
    return [Fraction(row[place], row[place + 1]) for place in range(0, len(row), 2)]


def hanging_together(size, ends):
    least = list(range(size))
    for turn in range(size):
        for first, second in ends:
            least[first] = least[second] = min(least[first], least[second])
    return least


class AgainstRings(unittest.TestCase):
    def numbers_are_those_told(self, nodes, ends, measured, answer, flows):
        found = as_fractions(answer[1:])
        self.assertEqual(len(found), nodes + 1)
        self.assertEqual([part for number in found for part in (number.numerator, number.denominator)], answer[1:])
        for node, least in enumerate(hanging_together(nodes + 1, ends)):
            self.assertTrue(node != least or found[node] == 0)
        for (first, second), pair, flow in zip(ends, measured, flows):
            self.assertEqual(found[second] - found[first], pair[1] * (flow - pair[0]) if pair else 0)

    def compare(self, chance, most_nodes, most_streams, value, weight):
        text, nodes, ends = some_sheet(chance, most_nodes, most_streams)
        measured = some_measured(chance, len(ends), value, weight)
        given = [sheet(text)] + measured_all(2, measured)
        laid_out, adjusted, numbered = [run(*given, adjust(2), numbers(2))[place] for place in (0, -2, -1)]
        self.assertEqual(laid_out, [0, len(ends), nodes], text)
        self.assertEqual(adjusted, expected_adjust(nodes, ends, measured), (text, measured))
        flows = best_flows(nodes, ends, measured)[0]
        self.numbers_are_those_told(nodes, ends, measured, numbered, flows)
        return given, adjusted, numbered, flows

    def test_small(self):
        chance = random.Random(4)
        for turn in range(400):
            given, adjusted, numbered, flows = self.compare(chance, 4, 6, 9, 3)
            row = [part for flow in flows for part in (flow.numerator, flow.denominator)]
            self.assertEqual(last(*given, check(2, row, numbered[1:])), [0, 1])

    def test_large(self):
        chance = random.Random(5)
        for turn in range(60):
            self.compare(chance, 8, 12, 1000000000, 1000000)


if __name__ == '__main__':
    unittest.main()
