"""sheet and say: what a right text is, where a wrong one is wrong, what a sheet's text is."""

import random
import re
import unittest

from helper import MOST, as_bytes, last, measure, run, said, say, sheet, told_state

NODES = ['na', 'nb', 'nc', 'nd', 'ne', 'nf', 'ng', 'nh']
STREAMS = ['sa', 'sb', 'sc', 'sd', 'se', 'sf', 'sg', 'sh', 'si', 'sj', 'sk', 'sl']


def ring(count):
    """A text of that many streams between two nodes."""
    return ','.join(f'{name}:x>y' for name in STREAMS[:count])


def chain(count):
    """A text that names that many nodes, each behind the other."""
    return ','.join(f'{STREAMS[n]}:{NODES[n]}>{NODES[n + 1]}' for n in range(count - 1))


class Right(unittest.TestCase):
    def right(self, text, streams, nodes):
        self.assertEqual(last(sheet(text)), [0, streams, nodes], text)

    def test_ordinary(self):
        self.right('a:b>c', 1, 2)
        self.right('feed: outside > mill, over: mill > cell, tail: cell > outside', 3, 2)

    def test_outside_is_not_counted(self):
        self.right('a:outside>b', 1, 1)
        self.right('a:b>outside', 1, 1)

    def test_like_outside_but_another_node(self):
        self.right('a:outsid>outsides', 1, 2)

    def test_stream_may_be_called_outside_or_like_a_node(self):
        self.right('outside:b>c, b:outside>c', 2, 2)

    def test_two_streams_between_the_same_nodes(self):
        self.right('a:b>c,d:b>c,e:c>b', 3, 2)

    def test_blanks_everywhere(self):
        self.right('  a  :  b  >  c  ,  d  :  c  >  b  ', 2, 2)
        self.assertEqual(said(sheet('  a  :  b  >  c  ,  d  :  c  >  b  ')), 'a: b > c, d: c > b')

    def test_eight_letters(self):
        self.right('abcdefgh:bcdefghi>zyxwvuts', 1, 2)

    def test_one_letter_at_both_ends_of_the_alphabet(self):
        self.right('a:a>z,z:z>a', 2, 2)

    def test_twelve_streams(self):
        self.right(ring(12), 12, 2)

    def test_eight_nodes_and_outside(self):
        self.right(chain(8), 7, 8)
        self.right(chain(8) + ',t:nh>outside', 8, 8)

    def test_400_bytes(self):
        self.right('a:b>c' + ' ' * 395, 1, 2)


class Wrong(unittest.TestCase):
    def wrong(self, text, place):
        self.assertEqual(last(sheet(text)), [-1000 - place], text)

    def test_ends_too_early(self):
        for text in ('', ' ', '   ', 'a', 'a ', 'a:', 'a: ', 'a:b', 'a:b ', 'a:b>', 'a:b> ', 'a:b>c,', 'a:b>c, ',
                     'a:b>c,d', 'a:b>c,d:b', 'a:b>c , d : b > '):
            self.wrong(text, len(text))

    def test_byte_that_cannot_stand_there(self):
        self.wrong(':', 0)
        self.wrong(',a:b>c', 0)
        self.wrong('a>b', 1)
        self.wrong('a,b', 1)
        self.wrong('a:>', 2)
        self.wrong('a:b:c', 3)
        self.wrong('a:b,c', 3)
        self.wrong('a:b>>c', 4)
        self.wrong('a:b>c:', 5)
        self.wrong('a:b>c>d', 5)
        self.wrong('a:b>c,,', 6)
        self.wrong('  a:b>c;', 7)

    def test_what_is_no_letter(self):
        for byte in range(256):
            if byte not in as_bytes('abcdefghijklmnopqrstuvwxyz :,'):
                self.wrong([byte], 0)
                self.wrong([97, byte], 1)
                self.wrong(as_bytes('a:b>c') + [byte], 5)

    def test_blank_within_a_name(self):
        self.wrong('a b:c>d', 2)
        self.wrong('a:b b>d', 4)
        self.wrong('a:b>d d', 6)

    def test_ninth_letter(self):
        self.wrong('abcdefghi:b>c', 8)
        self.wrong('a:abcdefghi>c', 10)
        self.wrong('a:b>abcdefghij', 12)
        self.wrong('a:b>c, abcdefghi', 15)

    def test_stream_name_that_came_before(self):
        self.wrong('a:b>c,a:c>b', 6)
        self.wrong('a:b>c,  a', 8)
        self.wrong('a:b>c,a;', 6)
        self.wrong('a:b>c,ab', 8)
        self.wrong('a:b>c,d:b>c,a:b>c', 12)

    def test_long_stream_name_whose_first_eight_came_before(self):
        self.wrong('abcdefgh:b>c,abcdefghi:b>c', 13)
        self.wrong('abcdefgh:b>c,abcdefgi', 21)
        self.wrong('abcdefgh:b>c,abcdefgij', 21)

    def test_thirteenth_stream(self):
        text = ring(12)
        self.wrong(text + ',t:x>y', len(text) + 1)
        self.wrong(text + ', t', len(text) + 2)
        self.wrong(text + ',abcdefghijkl', len(text) + 1)
        self.wrong(text + ', ', len(text) + 2)
        self.wrong(text + ',;', len(text) + 1)

    def test_ninth_node(self):
        text = chain(8)
        self.wrong(text + ',t:ni>na', len(text) + 3)
        self.wrong(text + ',t:na>ni', len(text) + 6)
        self.wrong(text + ',t:na> ni', len(text) + 7)
        self.wrong(text + ',t:abcdefghi', len(text) + 3)
        self.wrong(text + ',t:n', len(text) + 3)
        self.wrong(text + ',t:outsidex', len(text) + 3)
        self.wrong(text + ',t:outside', len(text) + 10)

    def test_long_node_whose_first_eight_are_a_node(self):
        text = chain(7) + ',t:abcdefgh>na'
        self.wrong(text + ',u:abcdefghi', len(text) + 11)

    def test_second_node_that_is_the_first(self):
        self.wrong('a:b>b', 4)
        self.wrong('a:b> b,', 5)
        self.wrong('a:b>b;', 4)
        self.wrong('a:outside>outside', 10)
        self.wrong('a:b>c,d:c>b,e:c>c', 16)
        self.wrong('a:abcdefgh>abcdefghi', 11)

    def test_second_node_that_only_begins_like_the_first(self):
        self.assertEqual(last(sheet('a:b>bb')), [0, 1, 2])
        self.assertEqual(last(sheet('a:abcdefgh>abcdefg')), [0, 1, 2])

    def test_what_is_wrong_first_is_told(self):
        self.wrong('a:b>b,a:c>c', 4)
        self.wrong('a:b>c,a:c>c;', 6)
        self.wrong('a;b>b', 1)


class Refused(unittest.TestCase):
    def test_401_bytes(self):
        self.assertEqual(last(sheet('a:b>c' + ' ' * 396)), [-1])
        self.assertEqual(last(sheet('a:b>c' + ' ' * 445)), [-1])
        self.assertEqual(last(sheet(';' * 401)), [-1])

    def test_no_byte(self):
        for number in (-1, 256, MOST, -MOST):
            self.assertEqual(last(sheet(as_bytes('a:b>c') + [number])), [-1])
            self.assertEqual(last(sheet([number])), [-1])

    def test_looked_at_ahead_of_the_text(self):
        self.assertEqual(last(sheet(as_bytes(';:b') + [256])), [-1])

    def test_old_sheet_stays(self):
        before = [sheet('a:b>c,d:c>outside'), measure(1, 1, 7, 2), measure(3, 2, 9, 1)]
        for text in ('', 'e:f>g;', 'e:f>g,e:g>f', 'a' * 401, [97, 256], 'e:f>f', 'e:f>g,'):
            self.assertEqual(told_state(*before, sheet(text)), told_state(*before), text)

    def test_refused_text_at_the_beginning(self):
        self.assertEqual(told_state(sheet('a:b>c,')), told_state())


class NewSheet(unittest.TestCase):
    def test_nothing_of_it_is_measured(self):
        measured = [measure(k, 1, 5, 1) for k in (1, 2, 3)]
        text = 'a:outside>b,c:b>outside'
        self.assertEqual(told_state(sheet(text), *measured, sheet(text)), told_state(sheet(text)))

    def test_names_of_the_old_one_are_free(self):
        old = 'a:b>c'
        self.assertEqual(run(sheet(old), sheet(old), sheet('a:c>b')), [[0, 1, 2]] * 3)
        self.assertEqual(said(sheet(old), sheet('a:c>d')), 'a: c > d')

    def test_streams_of_the_old_one_are_gone(self):
        self.assertEqual(run(sheet('a:b>c,d:c>b'), sheet('a:b>c'), measure(1, 2, 1, 1))[-1], [-1])


class Say(unittest.TestCase):
    def test_no_sheet_yet(self):
        self.assertEqual(last(say()), [0, 0])

    def test_one_stream(self):
        self.assertEqual(last(sheet('a:b>c'), say()), [0, 8] + as_bytes('a: b > c'))

    def test_several(self):
        self.assertEqual(said(sheet('z:outside>y ,b:y>outside,  a:x>y')), 'z: outside > y, b: y > outside, a: x > y')

    def test_longest(self):
        name = 'abcdefg'
        text = ','.join(f'{name}{sign}:nodeaaaa>nodebbbb' for sign in 'abcdefghijkl')
        self.assertEqual(len(said(sheet(text))), 12 * 29 + 11 * 2)

    def test_its_text_is_a_right_text_of_the_same_sheet(self):
        text = said(sheet(chain(8) + ',t:nh>outside'))
        self.assertEqual(run(sheet(text), say())[1][2:], as_bytes(text))


def wrong_place(text):
    """Where a text is wrong, or None: found by prefixes, which is slow and plain."""
    parts = ['[a-z]{1,8}', ':', '[a-z]{1,8}', '>', '[a-z]{1,8}']
    whole = ' *' + ' *'.join(parts) + ' *'
    begun = '|'.join(' *' + ''.join(part + ' *' for part in parts[:count]) for count in range(6))
    able = re.compile(f'({whole},)*({begun})')
    places = [place for place in range(len(text)) if not able.fullmatch(text[:place + 1])]
    place = places[0] if places else len(text)
    streams, nodes, first = [], [], None
    for count, name in enumerate(re.finditer('[a-z]+', text[:place])):
        if count % 3 == 0:
            if name[0] in streams or len(streams) == 12:
                return name.start()
            streams.append(name[0])
            continue
        if name[0] not in nodes + ['outside']:
            nodes.append(name[0])
        if len(nodes) == 9 or (count % 3 == 2 and name[0] == first):
            return name.start()
        first = name[0]
    return None if re.fullmatch(f'{whole}(,{whole})*', text) else place


class AgainstPrefixes(unittest.TestCase):
    def agree(self, text):
        place = wrong_place(text)
        answer = last(sheet(text))
        if place is None:
            self.assertEqual(answer[0], 0, text)
        else:
            self.assertEqual(answer, [-1000 - place], text)

    def test_short_texts(self):
        chance = random.Random(1)
        for turn in range(3000):
            self.agree(''.join(chance.choice('aab:> ,;') for sign in range(chance.randrange(12))))

    def test_spoilt_right_texts(self):
        chance = random.Random(2)
        names = ['a', 'b', 'ab', 'outside', 'abcdefgh', 'abcdefghi', 'outsides', 'c', 'd', 'e', 'f', 'g', 'h', 'i']
        for turn in range(1500):
            most_nodes = chance.choice([3, 8, 14])
            text = ','.join(
                f'{chance.choice(STREAMS + names[:6])}: {chance.choice(names[:most_nodes])}>'
                f'{chance.choice(names[:most_nodes])}' for stream in range(chance.randrange(1, 6)))
            place = chance.randrange(len(text))
            self.agree(text)
            self.agree(text[:place])
            self.agree(text[:place] + chance.choice('a:> ,;') + text[place:])

    def test_long_right_texts(self):
        chance = random.Random(3)
        for turn in range(500):
            nodes = NODES + chance.choice([['outside'], ['outside', 'ni']])
            text = ', '.join(
                ' > '.join([f'{name}: {chance.choice(nodes[:5])}', chance.choice(nodes[4:])])
                for name in STREAMS + chance.choice([[], ['t']]))
            self.agree(text)


if __name__ == '__main__':
    unittest.main()
