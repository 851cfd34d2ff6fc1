"""through and share: by hand, and each refusal of theirs."""

import unittest

from helper import MOST, adjust, last, measure, measured_all, run, share, sheet, through, told_state

SPLIT = 'feed:outside>mill,over:mill>outside,under:mill>cell,tail:cell>outside'
SPLIT_KNOWN = [sheet(SPLIT)] + measured_all(1, [(10, 1), (4, 1), None, None])

# x and y run round in a ring: they are not known.
RING = [sheet('feed:outside>m,x:m>n,y:n>m,out:n>outside'), measure(1, 1, 5, 1)]


class Through(unittest.TestCase):
    def test_one_node(self):
        self.assertEqual(last(*SPLIT_KNOWN, through(1, [1])), [0, 3, 1, 10, 1, 10, 1])
        self.assertEqual(last(*SPLIT_KNOWN, through(1, [2])), [0, 2, 1, 6, 1, 6, 1])

    def test_all_nodes(self):
        # under flows within the two.
        self.assertEqual(last(*SPLIT_KNOWN, through(1, [1, 2])), [0, 3, 1, 10, 1, 10, 1])
        self.assertEqual(last(*SPLIT_KNOWN, through(1, [2, 1])), [0, 3, 1, 10, 1, 10, 1])

    def test_no_nodes(self):
        self.assertEqual(last(*SPLIT_KNOWN, through(1, [])), [0, 0, 1, 0, 1, 0, 1])
        self.assertEqual(last(sheet(SPLIT), through(1, [])), [0, 0, 1, 0, 1, 0, 1])

    def test_no_streams_at_the_edge(self):
        self.assertEqual(last(sheet('a:m>n,b:n>m'), through(1, [1, 2])), [0, 0, 1, 0, 1, 0, 1])

    def test_sums_in_lowest_terms(self):
        # 1 too much, shared as 1 to 1 to 2: the two that flow in are 3/4 each.
        given = [sheet('a:outside>b,c:outside>b,d:b>outside')] + measured_all(2, [(1, 2), (1, 2), (1, 1)])
        self.assertEqual(last(*given, adjust(2))[3:], [2, 3, 4, 2, 3, 4, 2, 3, 2])
        self.assertEqual(last(*given, through(2, [1])), [0, 3, 1, 3, 2, 3, 2])

    def test_sums_may_be_below_nothing(self):
        given = [sheet(SPLIT)] + measured_all(1, [(3, 1), (5, 1), None, None])
        self.assertEqual(last(*given, through(1, [2])), [0, 2, 1, -2, 1, -2, 1])

    def test_stream_that_is_not_known_at_the_edge(self):
        self.assertEqual(last(*RING, adjust(1))[3::3], [1, 0, 0, 3])
        self.assertEqual(last(*RING, through(1, [1])), [0, 3, 0])
        self.assertEqual(last(*RING, through(1, [2])), [0, 3, 0])
        self.assertEqual(last(sheet(SPLIT), through(1, [1])), [0, 3, 0])

    def test_stream_that_is_not_known_within(self):
        self.assertEqual(last(*RING, through(1, [1, 2])), [0, 2, 1, 5, 1, 5, 1])

    def test_stream_that_is_not_known_on_one_side_alone(self):
        for text in ('a:outside>b,c:outside>b,d:b>outside', 'a:b>outside,c:b>outside,d:outside>b'):
            self.assertEqual(last(sheet(text), measure(1, 3, 5, 1), through(1, [1])), [0, 3, 0])

    def test_stream_that_is_not_known_elsewhere(self):
        text = 'a:outside>b,c:outside>b,d:outside>e,f:e>outside'
        given = [sheet(text), measure(1, 3, 5, 1)]
        self.assertEqual(run(*given, through(1, [1]), through(1, [2]), through(1, [1, 2]))[-3:],
                         [[0, 2, 0], [0, 2, 1, 5, 1, 5, 1], [0, 4, 0]])

    def test_nodes_apart_from_outside(self):
        given = [sheet('a:m>n,b:n>m,c:p>q,d:q>p')] + measured_all(1, [(10, 1), (4, 1), (4, 1), None])
        self.assertEqual(last(*given, through(1, [1])), [0, 2, 1, 7, 1, 7, 1])
        self.assertEqual(last(*given, through(1, [1, 3])), [0, 4, 1, 11, 1, 11, 1])

    def test_each_quantity_by_itself(self):
        given = SPLIT_KNOWN + [measure(3, 4, 8, 1)]
        self.assertEqual(run(*given, *[through(k, [2]) for k in (1, 2, 3)])[-3:],
                         [[0, 2, 1, 6, 1, 6, 1], [0, 2, 0], [0, 2, 1, 8, 1, 8, 1]])

    def test_no_sheet_yet(self):
        self.assertEqual(last(through(1, [])), [0, 0, 1, 0, 1, 0, 1])
        for node in (0, 1):
            self.assertEqual(last(through(1, [node])), [-1])

    def test_eight_nodes_and_twelve_streams(self):
        text = ','.join(f's{name}:outside>n{"abcdefgh"[place % 8]}' for place, name in enumerate('abcdefghijkl'))
        nodes = [1, 2, 3, 4, 5, 6, 7, 8]
        # Of the nodes with one stream nothing can flow; the others have two that are not known.
        self.assertEqual(run(sheet(text), through(1, nodes), through(1, nodes[4:])),
                         [[0, 12, 8], [0, 12, 0], [0, 4, 1, 0, 1, 0, 1]])


class ThroughRefused(unittest.TestCase):
    def refused(self, call):
        self.assertEqual(last(*SPLIT_KNOWN, call), [-1], call)
        self.assertEqual(told_state(*SPLIT_KNOWN, call), told_state(*SPLIT_KNOWN), call)

    def test_quantity(self):
        for k in (0, 4, -1, MOST, -MOST):
            self.refused(through(k, [1]))
            self.refused(through(k, []))

    def test_no_such_node(self):
        for node in (0, 3, -1, MOST, -MOST):
            self.refused(through(1, [node]))
            self.refused(through(1, [1, node]))
            self.refused(through(1, [node, 1]))

    def test_node_twice(self):
        for row in ([1, 1], [2, 2], [1, 2, 1], [2, 1, 1], [1, 2, 2], [1] * 40, [1, 2] * 20):
            self.refused(through(1, row))

    def test_asking_changes_nothing(self):
        self.assertEqual(told_state(*SPLIT_KNOWN, through(1, [1])), told_state(*SPLIT_KNOWN))


class Share(unittest.TestCase):
    def test_plain(self):
        given = SPLIT_KNOWN + measured_all(2, [(6, 1), (6, 1), None, None]) + measured_all(3, [(4, 1)])
        self.assertEqual(last(*given, share(1, 2, 1)), [0, 5, 3])
        self.assertEqual(last(*given, share(2, 1, 1)), [0, 3, 5])
        self.assertEqual(last(*given, share(3, 1, 1)), [0, 2, 5])
        self.assertEqual(last(*given, share(1, 2, 2)), [0, 2, 3])

    def test_by_the_balanced_flows(self):
        text = 'a:outside>b,c:b>outside,d:b>outside'
        given = [sheet(text)] + measured_all(1, [(10, 1), (4, 1), (4, 2)]) + measured_all(2, [None, (3, 1), (3, 1)])
        self.assertEqual(last(*given, share(1, 2, 1)), [0, 23, 15])
        self.assertEqual(last(*given, share(2, 1, 1)), [0, 15, 23])
        self.assertEqual(last(*given, share(1, 2, 3)), [0, 22, 15])

    def test_a_quantity_by_itself_is_one(self):
        for stream in (1, 2, 3, 4):
            self.assertEqual(last(*SPLIT_KNOWN, share(1, 1, stream)), [0, 1, 1])

    def test_flows_below_nothing(self):
        # under flows as -2 of quantity 1, as 6 of quantity 2.
        given = [sheet(SPLIT)] + measured_all(1, [(3, 1), (5, 1), None, None]) + measured_all(2, [(10, 1), (4, 1)])
        self.assertEqual(last(*given, share(1, 2, 3)), [0, -1, 3])
        self.assertEqual(last(*given, share(2, 1, 3)), [0, -3, 1])
        self.assertEqual(last(*given, share(1, 1, 3)), [0, 1, 1])

    def test_first_is_nothing(self):
        given = SPLIT_KNOWN + [measure(2, 1, 0, 1)]
        self.assertEqual(last(*given, share(2, 1, 1)), [0, 0, 1])

    def test_nothing_by_a_flow_below_nothing(self):
        given = [sheet(SPLIT)] + measured_all(1, [(3, 1), (5, 1), None, None]) + measured_all(2, [(4, 1), (4, 1)])
        self.assertEqual(last(*given, share(2, 1, 3)), [0, 0, 1])

    def test_second_is_nothing(self):
        given = SPLIT_KNOWN + measured_all(2, [(0, 1), (0, 1), None, None])
        for call in (share(1, 2, 1), share(2, 2, 1), share(1, 2, 3), share(1, 2, 4)):
            self.assertEqual(last(*given, call), [-2])
            self.assertEqual(told_state(*given, call), told_state(*given))

    def test_second_becomes_nothing(self):
        # It is measured as 5, but nothing can flow there.
        given = [sheet('a:b>c'), measure(1, 1, 5, 3)]
        self.assertEqual(last(*given, share(1, 1, 1)), [-2])

    def test_one_is_not_known(self):
        for call in (share(1, 2, 1), share(2, 1, 1), share(2, 3, 1), share(2, 2, 1), share(1, 2, 4), share(2, 1, 4)):
            self.assertEqual(last(*SPLIT_KNOWN, call), [-2], call)
            self.assertEqual(told_state(*SPLIT_KNOWN, call), told_state(*SPLIT_KNOWN), call)

    def test_not_measured_but_known(self):
        given = SPLIT_KNOWN + [measure(2, 4, 9, 1)]
        self.assertEqual(last(*given, share(2, 1, 3)), [0, 3, 2])
        self.assertEqual(last(*given, share(1, 2, 4)), [0, 2, 3])

    def test_largest(self):
        given = [sheet('a:outside>b,c:b>outside')] + measured_all(1, [(1000000000, 1000000), (0, 999999)])
        given += measured_all(3, [(1, 1), None])
        self.assertEqual(last(*given, share(1, 3, 2)), [0, 1000000000000000, 1999999])
        self.assertEqual(last(*given, share(3, 1, 2)), [0, 1999999, 1000000000000000])

    def test_asking_changes_nothing(self):
        self.assertEqual(told_state(*SPLIT_KNOWN, share(1, 1, 1)), told_state(*SPLIT_KNOWN))


class ShareRefused(unittest.TestCase):
    def test_outside_of_the_ranges(self):
        before = [sheet(SPLIT)] + [measure(k, stream, 2, 1) for k in (1, 2, 3) for stream in (1, 2, 3, 4)]
        for k in (1, 3):
            for h in (1, 3):
                self.assertEqual(last(*before, share(k, h, 1))[0], 0)
                self.assertEqual(last(*before, share(k, h, 4))[0], 0)
        for wrong in (0, 5, -1, MOST, -MOST):
            for call in (share(wrong, 1, 1), share(1, wrong, 1), share(1, 1, wrong), share(wrong, wrong, wrong)):
                self.assertEqual(last(*before, call), [-1], call)
                self.assertEqual(told_state(*before, call), told_state(*before), call)
        self.assertEqual(last(*before, share(4, 1, 1)), [-1])
        self.assertEqual(last(*before, share(1, 4, 1)), [-1])

    def test_range_is_looked_at_first(self):
        # In its range, each of these would be refused by -2.
        before = [sheet(SPLIT)]
        self.assertEqual(last(*before, share(1, 1, 1)), [-2])
        for call in (share(0, 1, 1), share(1, 4, 1), share(1, 1, 5), share(1, 1, 0)):
            self.assertEqual(last(*before, call), [-1])

    def test_no_sheet_yet(self):
        for stream in (0, 1):
            self.assertEqual(last(share(1, 2, stream)), [-1])


if __name__ == '__main__':
    unittest.main()
