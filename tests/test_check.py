"""check: what proves, what does not, and each refusal."""

import unittest

from helper import MOST, check, last, measure, run, sheet, told_state

# 3 lie between the two measured streams, shared as 1 to 2.
PAIR = [sheet('a:outside>b,c:b>outside'), measure(1, 1, 10, 2), measure(1, 2, 7, 1)]
PAIR_FLOWS = [9, 1, 9, 1]
PAIR_NUMBERS = [0, 1, -2, 1]

# c is not measured and joins m and n.
CHAIN = [sheet('a:outside>m,c:m>n,b:n>outside'), measure(3, 1, 10, 1), measure(3, 3, 5, 1)]
CHAIN_FLOWS = [15, 2, 15, 2, 15, 2]
CHAIN_NUMBERS = [0, 1, -5, 2, -5, 2]


class Check(unittest.TestCase):
    def test_proved(self):
        self.assertEqual(last(*PAIR, check(1, PAIR_FLOWS, PAIR_NUMBERS)), [0, 1])
        self.assertEqual(last(*CHAIN, check(3, CHAIN_FLOWS, CHAIN_NUMBERS)), [0, 1])

    def test_fractions_need_not_be_in_lowest_terms(self):
        self.assertEqual(last(*PAIR, check(1, [18, 2, 27, 3], [0, 7, -8, 4])), [0, 1])
        self.assertEqual(last(*CHAIN, check(3, [30, 4, 45, 6, 15, 2], [0, 9, -10, 4, -15, 6])), [0, 1])

    def test_flows_that_do_not_balance(self):
        # Each stream by itself agrees with the numbers.
        self.assertEqual(last(*PAIR, check(1, [10, 1, 7, 1], [0, 1, 0, 1])), [0, 0])
        self.assertEqual(last(*CHAIN, check(3, [15, 2, 8, 1, 15, 2], CHAIN_NUMBERS)), [0, 0])

    def test_flows_that_balance_but_are_not_best(self):
        self.assertEqual(last(*PAIR, check(1, [8, 1, 8, 1], PAIR_NUMBERS)), [0, 0])
        self.assertEqual(last(*PAIR, check(1, [8, 1, 8, 1], [0, 1, -4, 1])), [0, 0])

    def test_outside_has_not_nothing(self):
        self.assertEqual(last(*PAIR, check(1, PAIR_FLOWS, [1, 1, -1, 1])), [0, 0])

    def test_numbers_the_wrong_way_round(self):
        self.assertEqual(last(*PAIR, check(1, PAIR_FLOWS, [0, 1, 2, 1])), [0, 0])

    def test_ends_of_a_stream_that_is_not_measured(self):
        given = [sheet('a:m>n')]
        self.assertEqual(last(*given, check(1, [0, 1], [0, 1, 5, 1, 5, 1])), [0, 1])
        self.assertEqual(last(*given, check(1, [0, 1], [0, 1, 5, 1, 4, 1])), [0, 0])

    def test_least_node_apart_from_outside_may_have_any_number(self):
        given = [sheet('a:m>n,b:n>m'), measure(1, 1, 4, 1), measure(1, 2, 2, 1)]
        self.assertEqual(last(*given, check(1, [3, 1, 3, 1], [0, 1, 8, 1, 7, 1])), [0, 1])
        self.assertEqual(last(*given, check(1, [3, 1, 3, 1], [0, 1, 8, 1, 8, 1])), [0, 0])

    def test_stream_that_is_not_known_may_have_any_flow_that_balances(self):
        given = [sheet('a:outside>m,b:m>outside')]
        self.assertEqual(last(*given, check(2, [-7, 3, -7, 3], [0, 1, 0, 1])), [0, 1])
        self.assertEqual(last(*given, check(2, [-7, 3, 7, 3], [0, 1, 0, 1])), [0, 0])

    def test_quantity_by_itself(self):
        self.assertEqual(last(*PAIR, check(2, PAIR_FLOWS, PAIR_NUMBERS)), [0, 0])
        self.assertEqual(last(*PAIR, check(2, PAIR_FLOWS, [0, 1, 0, 1])), [0, 1])

    def test_no_sheet_yet(self):
        self.assertEqual(run(check(1, [], [0, 1]), check(1, [], [0, 5]), check(1, [], [1, 5])), [[0, 1], [0, 1], [0, 0]])
        self.assertEqual(run(check(1, [], []), check(1, [0, 1], [0, 1])), [[-1], [-1]])

    def test_largest_row(self):
        text = ','.join(f's{name}:outside>n{"abcdefgh"[place % 8]}' for place, name in enumerate('abcdefghijkl'))
        self.assertEqual(run(sheet(text), check(1, [0, 1] * 12, [0, 1] * 9)), [[0, 12, 8], [0, 1]])


class Refused(unittest.TestCase):
    def refused(self, call):
        self.assertEqual(last(*PAIR, call), [-1], call)
        self.assertEqual(told_state(*PAIR, call), told_state(*PAIR), call)

    def test_quantity(self):
        for k in (0, 4, -1, MOST, -MOST):
            self.refused(check(k, PAIR_FLOWS, PAIR_NUMBERS))

    def test_rows_too_short_or_too_long(self):
        for row in ([], [9], [9, 1], [9, 1, 9], [9, 1, 9, 1, 9], [9, 1, 9, 1, 9, 1], [1] * 40):
            self.refused(check(1, row, PAIR_NUMBERS))
            self.refused(check(1, PAIR_FLOWS, row))
            self.refused(check(1, row, row))

    def test_the_rows_may_not_stand_in_for_one_another(self):
        self.assertEqual(last(*CHAIN, check(3, CHAIN_FLOWS, CHAIN_NUMBERS[:4])), [-1])
        self.assertEqual(last(sheet('a:m>n'), check(1, [0, 1, 0, 1, 0, 1], [0, 1])), [-1])

    def test_fractions_out_of_their_range(self):
        for place in range(4):
            wrong = (1000000000001, -1000000000001, MOST, -MOST) if place % 2 == 0 else (0, -1, 1000000000001, MOST)
            for number in wrong:
                self.refused(check(1, PAIR_FLOWS[:place] + [number] + PAIR_FLOWS[place + 1:], PAIR_NUMBERS))
                self.refused(check(1, PAIR_FLOWS, PAIR_NUMBERS[:place] + [number] + PAIR_NUMBERS[place + 1:]))

    def test_ends_of_the_ranges(self):
        most = 1000000000000
        self.assertEqual(last(*PAIR, check(1, [most, 1, -most, most], [-most, most, most, 1])), [0, 0])
        self.assertEqual(last(*PAIR, check(1, PAIR_FLOWS, [0, most, -most, most // 2])), [0, 1])

    def test_looked_at_first_for_the_whole_call(self):
        # By the flows alone the answer would be 0.
        self.refused(check(1, [1, 1, 2, 1], [0, 1, -2, 0]))


if __name__ == '__main__':
    unittest.main()
