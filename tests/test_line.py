"""The list that is handed in and the one that is given back."""

import builtins
import contextlib
import io
import random
import sys
import unittest
from unittest import mock

from helper import (MOST, adjust, check, flat, forget, imbalance, measure, measured_all, numbers, run, say, share,
                    sheet, split, suspect, through, told, told_state, without)
from streambalance.sheet import answers

TEXT = 'a:outside>b,c:b>d,e:d>outside'
LINE = [sheet('x'), say(), sheet(TEXT), measure(1, 1, 9, 2), measure(1, 3, 6, 1), measure(4, 1, 1, 1), forget(1, 2),
        adjust(1), numbers(1), check(1, [8, 1, 8, 1, 8, 1], [0, 1, -2, 1, -2, 1]), say(), forget(1, 1), adjust(1),
        measure(1, 1, 9, 2), imbalance(1), without(1, 3), suspect(1), through(1, [2]), share(1, 1, 2), share(1, 2, 2),
        through(1, [2, 2]), told(1)]

LARGE_TEXT = ','.join(f's{name}:n{"abcdefgh"[place % 8]}>n{"bcdefgha"[place % 8]}'
                      for place, name in enumerate('abcdefghijkl'))
LARGE_WEIGHTS = [999983, 999979, 999961, 999959, 999953, 999931, 999917, 999907, 999883, 999863, 999853, 999809]


def large_plant():
    """The calls that lay out 12 streams between 8 nodes, all measured."""
    chance = random.Random(6)
    return [sheet(LARGE_TEXT)] + measured_all(1, [(chance.randrange(1000000001), weight) for weight in LARGE_WEIGHTS])


class Line(unittest.TestCase):
    def test_counts_stand_ahead_of_the_answers(self):
        given = answers([1] + sheet('a:b>c') + [4, 9] + [2, 1, 1, 5, 3] + [3, 1, 1] + [3, 1, 1] + [4, 1] + [5, 1])
        self.assertEqual(given, [2, 0, 0, 3, 0, 1, 2, 1, -1, 1, 0, 1, 0, 1, -2, 6, 0, 0, 1, 3, 0, 1,
                                 7, 0, 0, 1, 0, 1, 0, 1])

    def test_one_call_is_a_line(self):
        self.assertEqual(answers([1]), [2, 0, 0])
        self.assertEqual(answers([0, 0]), [1, -1000])

    def test_rows_are_skipped_when_they_are_refused(self):
        self.assertEqual(answers([6, 7, 3, 1, 1, 1, 2, 4, 4, 1]), [1, -1, 2, 0, 0])
        self.assertEqual(answers([0, 2, 300, 4, 1]), [1, -1, 2, 0, 0])
        self.assertEqual(answers([10, 1, 3, 1, 4, 9, 1]), [1, -1, 2, 0, 0])
        self.assertEqual(answers([10, 9, 0, 1]), [1, -1, 2, 0, 0])

    def test_ordinary_line(self):
        self.assertEqual([answer[0] for answer in run(*LINE)], [
            -1001, 0, 0, 0, 0, -1, -2, 0, 0, 0, 0, 0, 0, 0, 0, 0, 0, 0, 0, -2, -1, 0])

    def test_all_thirteen_calls(self):
        self.assertEqual(sorted({call[0] for call in LINE}), list(range(13)))
        self.assertEqual(run(*LINE), [
            [-1001], [0, 0], [0, 3, 2], [0], [0], [-1], [-2],
            [0, 6, 1, 2, 8, 1, 3, 8, 1, 2, 8, 1], [0, 0, 1, -2, 1, -2, 1], [0, 1],
            [0, 40] + [ord(sign) for sign in 'a: outside > b, c: b > d, e: d > outside'],
            [0], [0, 0, 1, 3, 6, 1, 3, 6, 1, 1, 6, 1], [0],
            [0, 9, -6], [0, 1, 9, 1, 0, 1], [0, 1, 0, 1], [0, 2, 1, 8, 1, 8, 1], [0, 1, 1], [-2], [-1],
            [0, 3, 0, 1, 1, 9, 2, 1, 2, 0, 0, 0, 2, 0, 1, 6, 1]])

    def test_no_sheet_yet(self):
        calls = [say(), measure(1, 1, 1, 1), forget(1, 1), adjust(1), numbers(1), check(1, [], [0, 1]), imbalance(1),
                 without(1, 1), suspect(1), through(1, []), share(1, 1, 1), told(1), sheet('')]
        self.assertEqual(run(*calls), [
            [0, 0], [-1], [-1], [0, 0, 1], [0, 0, 1], [0, 1], [0],
            [-1], [0, 0], [0, 0, 1, 0, 1, 0, 1], [-1], [0, 0], [-1000]])

    def test_what_is_handed_in_is_not_changed(self):
        calls = flat(LINE)
        before = list(calls)
        answers(calls)
        self.assertEqual(calls, before)

    def test_two_runs_answer_the_same(self):
        calls = flat(LINE)
        first = answers(calls)
        self.assertEqual(answers(calls), first)
        answers(flat([sheet('p:q>r'), measure(1, 1, 2, 3)]))
        self.assertEqual(answers(calls), first)

    def test_nothing_is_kept(self):
        answers(flat([sheet(TEXT), measure(1, 1, 9, 2)]))
        self.assertEqual(answers([1, 4, 1]), [2, 0, 0, 3, 0, 0, 1])

    def test_what_is_given_back_is_not_kept(self):
        first = answers(flat(LINE))
        kept = list(first)
        first.clear()
        self.assertEqual(answers(flat(LINE)), kept)

    def test_whole_numbers_in_a_list(self):
        given = answers(flat(LINE))
        self.assertIs(type(given), list)
        self.assertEqual({type(number) for number in given}, {int})

    def test_nothing_is_printed(self):
        printed = io.StringIO()
        with contextlib.redirect_stdout(printed), contextlib.redirect_stderr(printed):
            answers(flat(LINE))
        self.assertEqual(printed.getvalue(), '')

    def test_nothing_is_read_or_imported(self):
        calls = flat(LINE)
        answers(calls)
        modules = list(sys.modules)
        barred = mock.Mock(side_effect=AssertionError)
        with mock.patch.object(builtins, 'open', barred), mock.patch.object(builtins, '__import__', barred):
            answers(calls)
        self.assertEqual(list(sys.modules), modules)

    def test_asking_leaves_no_trace(self):
        before = LINE[2:5]
        asked = [say(), adjust(1), numbers(1), check(1, [8, 1] * 3, [0, 1] * 3), imbalance(1), without(1, 1),
                 without(1, 2), suspect(1), through(1, [1]), share(1, 1, 1), told(1)]
        self.assertEqual(told_state(*before, *asked), told_state(*before))
        answered = run(*before, *asked, *asked)
        self.assertEqual(answered[-len(asked):], answered[len(before):-len(asked)])

    def test_refused_calls_leave_no_trace(self):
        wrong = [sheet('a:b>b'), sheet([300]), measure(0, 1, 1, 1), measure(1, 4, 1, 1), forget(2, 1), forget(0, 1),
                 adjust(0), numbers(4), check(1, [], []), imbalance(0), without(1, 4), suspect(4), through(1, [1, 1]),
                 share(1, 1, 4), share(1, 3, 1), told(0)]
        right = LINE[2:5] + LINE[13:14] + [adjust(1), numbers(1), told(1), told(2)]
        answered = [run(*right[:1 + place], *wrong, *right[1 + place:]) for place in range(len(right))]
        for place, found in enumerate(answered):
            self.assertEqual(found[:1 + place] + found[1 + place + len(wrong):], run(*right))
            self.assertEqual([answer for answer in found[1 + place:1 + place + len(wrong)] if answer[0] >= 0], [])
            self.assertEqual({len(answer) for answer in found[1 + place:1 + place + len(wrong)]}, {1})

    def test_any_number_may_be_handed_in(self):
        before = LINE[2:5]
        for number in (MOST, -MOST, MOST - 1, 1 - MOST, 0, -1):
            calls = [sheet([number]), sheet([97, number]), measure(number, number, number, number),
                     forget(number, number), adjust(number), numbers(number),
                     check(number, [number] * 6, [number] * 6), check(1, [number] * 6, [number] * 6),
                     check(1, [number] * 40, [number] * 40), imbalance(number), without(number, number),
                     without(1, number), suspect(number), through(number, [number]), through(1, [number]),
                     through(1, [number] * 40), share(number, number, number), share(1, 1, number), told(number)]
            wanted = [[-1]] * len(calls)
            if number == 0:
                wanted = [[-1000], [-1001]] + wanted[2:]
            self.assertEqual(run(*before, *calls)[len(before):], wanted)
            self.assertEqual(told_state(*before, *calls), told_state(*before))

    def test_longest_line(self):
        calls = large_plant() + [adjust(1), numbers(1)] * 53 + [say()]
        self.assertEqual(len(calls), 120)
        found = split(answers(flat(calls)))
        self.assertEqual(found[13:119:2], [found[13]] * 53)
        self.assertEqual(found[14:119:2], [found[14]] * 53)
        self.assertEqual(found[13][3::3], [2] * 12)

    def test_longest_line_of_calls_that_only_ask(self):
        asked = [suspect(1), imbalance(1), told(1), through(1, [8, 7, 6, 5]), share(1, 1, 12)]
        asked += [without(1, stream + 1) for stream in range(12)]
        calls = large_plant() + asked * 6
        calls += [suspect(1)] * (120 - len(calls))
        found = split(answers(flat(calls)))
        self.assertEqual(len(found), 120)
        self.assertEqual([answer[0] for answer in found], [0] * 120)
        for place in range(13, 13 + 5 * len(asked)):
            self.assertEqual(found[place], found[place + len(asked)])
        self.assertEqual(found[-1], found[13])

    def test_largest_list(self):
        # 36 refused rows of 450, the longest that may be handed in, then calls that only ask.
        calls = large_plant() + [sheet([97] * 450)] * 36 + [told(1)]
        calls += [check(1, [1] * 40, [1] * 40)] * 4
        numbers_in = flat(calls)
        self.assertLessEqual(len(calls), 120)
        self.assertLessEqual(len(numbers_in), 17000)
        found = split(answers(numbers_in))
        self.assertEqual(found[13:49], [[-1]] * 36)
        self.assertEqual(found[49][:2], [0, 12])
        self.assertEqual(found[50:], [[-1]] * 4)


if __name__ == '__main__':
    unittest.main()
