"""Builds lists of calls and takes lists of answers apart."""

from streambalance.sheet import answers

MOST = 1000000000000000000


def as_bytes(text):
    return list(text) if isinstance(text, list) else [ord(sign) for sign in text]


def sheet(text):
    row = as_bytes(text)
    return [0, len(row)] + row


def say():
    return [1]


def measure(k, stream, value, weight):
    return [2, k, stream, value, weight]


def forget(k, stream):
    return [3, k, stream]


def adjust(k):
    return [4, k]


def numbers(k):
    return [5, k]


def check(k, flows, node_numbers):
    return [6, k, len(flows)] + flows + [len(node_numbers)] + node_numbers


def split(given):
    found = []
    place = 0
    while place < len(given):
        behind = place + 1 + given[place]
        found.append(given[place + 1:behind])
        place = behind
    assert place == len(given), given
    return found


def run(*calls):
    """The answers to the calls, a list each."""
    return split(answers([number for call in calls for number in call]))


def last(*calls):
    return run(*calls)[-1]


def said(*calls):
    """What say answers behind the calls, as a text."""
    answer = last(*calls, say())
    assert answer[0] == 0 and answer[1] == len(answer) - 2, answer
    return ''.join(chr(byte) for byte in answer[2:])


def told_state(*calls):
    """All that can be asked of the plant behind the calls."""
    asked = [say()] + [call(k) for k in (1, 2, 3) for call in (adjust, numbers)]
    return run(*calls, *asked)[-len(asked):]
