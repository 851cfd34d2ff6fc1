"""The text of a sheet: read from bytes, and written as bytes.

A name is a tuple of its bytes; a stream is its name and the numbers of its two nodes.
"""

from streambalance.refusals import WrongText

OUTSIDE = (111, 117, 116, 115, 105, 100, 101)
MOST_LETTERS = 8
MOST_STREAMS = 12
MOST_NODES = 8

BLANK = 32
COMMA = 44
COLON = 58
ARROW = 62
FIRST_LETTER = 97
LAST_LETTER = 122
TEXT_END = -1


class TextReader:
    def __init__(self, text):
        self.text = text
        self.place = 0
        self.streams = []
        self.nodes = [OUTSIDE]

    def byte_here(self):
        if self.place < len(self.text):
            return self.text[self.place]
        return TEXT_END

    def letter_here(self):
        return FIRST_LETTER <= self.byte_here() <= LAST_LETTER

    def skip_blanks(self):
        while self.byte_here() == BLANK:
            self.place += 1

    def take_sign(self, sign):
        self.skip_blanks()
        if self.byte_here() != sign:
            raise WrongText(self.place)
        self.place += 1

    # Only the first eight letters are taken: a longer name is asked by these whether it is
    # wrong at its first letter, before its ninth letter is found wrong.
    def take_letters(self):
        self.skip_blanks()
        start = self.place
        while self.letter_here() and self.place - start < MOST_LETTERS:
            self.place += 1
        if self.place == start:
            raise WrongText(start)
        return tuple(self.text[start:self.place])

    def end_name(self, name, is_wrong):
        if is_wrong:
            raise WrongText(self.place - len(name))
        if self.letter_here():
            raise WrongText(self.place)

    def take_stream_name(self):
        name = self.take_letters()
        came_before = name in [stream[0] for stream in self.streams]
        self.end_name(name, came_before or len(self.streams) == MOST_STREAMS)
        return name

    # A first node has no other node that it must not be: its barred is None.
    def take_node(self, barred):
        name = self.take_letters()
        is_new = name not in self.nodes
        is_ninth = is_new and len(self.nodes) > MOST_NODES
        self.end_name(name, is_ninth or (not is_new and self.nodes.index(name) == barred))
        if is_new:
            self.nodes.append(name)
        return self.nodes.index(name)

    def take_statement(self):
        name = self.take_stream_name()
        self.take_sign(COLON)
        first = self.take_node(None)
        self.take_sign(ARROW)
        second = self.take_node(first)
        self.streams.append((name, first, second))

    def take_all(self):
        self.take_statement()
        self.skip_blanks()
        while self.byte_here() != TEXT_END:
            self.take_sign(COMMA)
            self.take_statement()
            self.skip_blanks()


# Gives the streams and the nodes' names, that of outside first.
def read_text(text):
    reader = TextReader(text)
    reader.take_all()
    return (reader.streams, reader.nodes)


def written_text(streams, nodes):
    text = []
    for name, first, second in streams:
        if len(text) > 0:
            text.extend([COMMA, BLANK])
        text.extend(name)
        text.extend([COLON, BLANK])
        text.extend(nodes[first])
        text.extend([BLANK, ARROW, BLANK])
        text.extend(nodes[second])
    return text
