"""The list that is handed in and the one that is given back."""

import contextlib
import io
import random
import unittest

from helper import adjust, check, forget, measure, numbers, run, say, sheet, split
from streambalance.sheet import answers

TEXT = 'a:outside>b,c:b>d,e:d>outside'
LINE = [sheet('x'), say(), sheet(TEXT), measure(1, 1, 9, 2), measure(1, 3, 6, 1), measure(4, 1, 1, 1), forget(1, 2),
        adjust(1), numbers(1), check(1, [8, 1, 8, 1, 8, 1], [0, 1, -2, 1, -2, 1]), say(), forget(1, 1), adjust(1)]


def flat(calls):
    return [number for call in calls for number in call]


class Line(unittest.TestCase):
    def test_counts_stand_ahead_of_the_answers(self):
        given = answers([1] + sheet('a:b>c') + [4, 9] + [2, 1, 1, 5, 3] + [3, 1, 1] + [3, 1, 1] + [4, 1] + [5, 1])
        self.assertEqual(given, [2, 0, 0, 3, 0, 1, 2, 1, -1, 1, 0, 1, 0, 1, -2, 6, 0, 0, 1, 3, 0, 1,
                                 7, 0, 0, 1, 0, 1, 0, 1])

    def test_one_call_is_a_line(self):
        self.assertEqual(answers([1]), [2, 0, 0])
        self.assertEqual(answers([0, 0]), [1, -1000])

    def test_rows_are_skipped_when_they_are_refused(self):
        self.assertEqual(answers([6, 7, 3, 1, 1, 1, 2, 4, 4, 1]), [1, -1, 2, 0, 0])
        self.assertEqual(answers([0, 2, 300, 4, 1]), [1, -1, 2, 0, 0])

    def test_ordinary_line(self):
        self.assertEqual([answer[0] for answer in run(*LINE)], [-1001, 0, 0, 0, 0, -1, -2, 0, 0, 0, 0, 0, 0])

    def test_what_is_handed_in_is_not_changed(self):
        calls = flat(LINE)
        before = list(calls)
        answers(calls)
        self.assertEqual(calls, before)

    def test_two_runs_answer_the_same(self):
        calls = flat(LINE)
        first = answers(calls)
        self.assertEqual(answers(calls), first)
        answers(flat([sheet('p:q>r'), measure(1, 1, 2, 3)]))
        self.assertEqual(answers(calls), first)

    def test_nothing_is_kept(self):
        answers(flat([sheet(TEXT), measure(1, 1, 9, 2)]))
        self.assertEqual(answers([1, 4, 1]), [2, 0, 0, 3, 0, 0, 1])

    def test_what_is_given_back_is_not_kept(self):
        first = answers(flat(LINE))
        kept = list(first)
        first.clear()
        self.assertEqual(answers(flat(LINE)), kept)

    def test_whole_numbers_in_a_list(self):
        given = answers(flat(LINE))
        self.assertIs(type(given), list)
        self.assertEqual({type(number) for number in given}, {int})

    def test_nothing_is_printed(self):
        printed = io.StringIO()
        with contextlib.redirect_stdout(printed), contextlib.redirect_stderr(printed):
            answers(flat(LINE))
        self.assertEqual(printed.getvalue(), '')

    def test_refused_calls_leave_no_trace(self):
        wrong = [sheet('a:b>b'), sheet([300]), measure(0, 1, 1, 1), measure(1, 4, 1, 1), forget(2, 1), forget(0, 1),
                 adjust(0), numbers(4), check(1, [], [])]
        right = LINE[2:5] + LINE[7:]
        mixed = [call for one in right for call in [one] + wrong]
        answered = run(*mixed)
        self.assertEqual(answered[::len(wrong) + 1], run(*right))
        self.assertTrue(all(len(answer) == 1 and answer[0] < 0
                            for place, answer in enumerate(answered) if place % (len(wrong) + 1)))

    def test_longest_line(self):
        chance = random.Random(6)
        text = ','.join(f's{name}:n{"abcdefgh"[place % 8]}>n{"bcdefgha"[place % 8]}'
                        for place, name in enumerate('abcdefghijkl'))
        primes = [999983, 999979, 999961, 999959, 999953, 999931, 999917, 999907, 999883, 999863, 999853, 999809]
        calls = [sheet(text)] + [measure(1, stream + 1, chance.randrange(1000000001), prime)
                                 for stream, prime in enumerate(primes)]
        calls += [adjust(1), numbers(1)] * 53 + [say()]
        self.assertEqual(len(calls), 120)
        found = split(answers(flat(calls)))
        self.assertEqual(found[13:119:2], [found[13]] * 53)
        self.assertEqual(found[14:119:2], [found[14]] * 53)
        self.assertEqual(found[13][3::3], [2] * 12)


if __name__ == '__main__':
    unittest.main()
