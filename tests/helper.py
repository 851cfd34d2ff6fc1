"""Builds lists of calls, takes lists of answers apart, and reckons balanced flows in another way."""

from fractions import Fraction

from streambalance.sheet import answers

MOST = 1000000000000000000


def as_bytes(text):
    return list(text) if isinstance(text, list) else [ord(sign) for sign in text]


def sheet(text):
    row = as_bytes(text)
    return [0, len(row)] + row


def say():
    return [1]


def measure(k, stream, value, weight):
    return [2, k, stream, value, weight]


def forget(k, stream):
    return [3, k, stream]


def adjust(k):
    return [4, k]


def numbers(k):
    return [5, k]


def check(k, flows, node_numbers):
    return [6, k, len(flows)] + flows + [len(node_numbers)] + node_numbers


def imbalance(k):
    return [7, k]


def without(k, stream):
    return [8, k, stream]


def suspect(k):
    return [9, k]


def through(k, nodes):
    return [10, k, len(nodes)] + nodes


def share(k, h, stream):
    return [11, k, h, stream]


def told(k):
    return [12, k]


def measured_all(k, values_and_weights):
    return [measure(k, stream + 1, *pair) for stream, pair in enumerate(values_and_weights) if pair is not None]


def flat(calls):
    return [number for call in calls for number in call]


def split(given):
    found = []
    place = 0
    while place < len(given):
        behind = place + 1 + given[place]
        found.append(given[place + 1:behind])
        place = behind
    assert place == len(given), given
    return found


def run(*calls):
    """The answers to the calls, a list each."""
    return split(answers(flat(calls)))


def last(*calls):
    return run(*calls)[-1]


def said(*calls):
    """What say answers behind the calls, as a text."""
    answer = last(*calls, say())
    assert answer[0] == 0 and answer[1] == len(answer) - 2, answer
    return ''.join(chr(byte) for byte in answer[2:])


def told_state(*calls):
    """All that can be asked of the plant behind the calls."""
    asked = [say()] + [call(k) for k in (1, 2, 3) for call in (told, adjust, numbers)]
    return run(*calls, *asked)[-len(asked):]


def reduced(rows):
    """The rows, each pivot 1 and alone in its column, and the pivots' columns."""
    rows, pivots = [list(row) for row in rows], []
    for column in range(len(rows[0]) if rows else 0):
        found = [place for place in range(len(pivots), len(rows)) if rows[place][column]]
        if not found:
            continue
        top = len(pivots)
        rows[top], rows[found[0]] = rows[found[0]], rows[top]
        rows[top] = [number / rows[top][column] for number in rows[top]]
        for place in range(len(rows)):
            if place != top and rows[place][column]:
                factor = rows[place][column]
                rows[place] = [own - factor * other for own, other in zip(rows[place], rows[top])]
        pivots.append(column)
    return rows, pivots


def free_directions(rows, width):
    """A basis of what the rows send to nothing."""
    rows, pivots = reduced(rows)
    basis = []
    for free in [column for column in range(width) if column not in pivots]:
        vector = [Fraction(0)] * width
        vector[free] = Fraction(1)
        for row, pivot in zip(rows, pivots):
            vector[pivot] = -row[free]
        basis.append(vector)
    return basis


def best_flows(nodes, ends, measured):
    """Flows of least change and which of them are sure: by rings, not by numbers of nodes."""
    width = len(ends)
    balance = [[Fraction((end[1] == node) - (end[0] == node)) for end in ends] for node in range(1, nodes + 1)]
    rings = free_directions(balance, width)
    weights = [pair[1] if pair else 0 for pair in measured]
    values = [pair[0] if pair else 0 for pair in measured]
    normal = [[sum(w * a * b for w, a, b in zip(weights, one, other)) for other in rings]
              + [Fraction(sum(w * a * v for w, a, v in zip(weights, one, values)))] for one in rings]
    rows, pivots = reduced(normal)
    amounts = [Fraction(0)] * len(rings)
    for row, pivot in zip(rows, pivots):
        amounts[pivot] = row[-1]
    loose = free_directions([row[:-1] for row in normal], len(rings))
    mixed = [[sum((t * ring[j] for t, ring in zip(some, rings)), Fraction(0)) for j in range(width)]
             for some in [amounts] + loose]
    sure = [all(direction[j] == 0 for direction in mixed[1:]) for j in range(width)]
    return mixed[0], sure


def expected_adjust(nodes, ends, measured):
    flows, sure = best_flows(nodes, ends, measured)
    change = sum((pair[1] * (flow - pair[0]) ** 2 for pair, flow in zip(measured, flows) if pair), Fraction(0))
    answer = [0, change.numerator, change.denominator]
    for j, pair in enumerate(measured):
        sort = 3 if sure[j] else 0
        if pair:
            sort = 2 if best_flows(nodes, ends, measured[:j] + [None] + measured[j + 1:])[1][j] else 1
        flow = flows[j] if sort else Fraction(0)
        answer += [sort, flow.numerator, flow.denominator]
    return answer


def some_sheet(chance, most_nodes, most_streams):
    """A text, and how many nodes and what ends its streams have."""
    nodes, ends, parts = ['outside'], [], []
    pool = ['outside'] * chance.randrange(2) + ['n' + sign for sign in 'abcdefgh'[:most_nodes]]
    for stream in range(chance.randrange(1, most_streams + 1)):
        pair = chance.sample(pool, 2)
        nodes += [name for name in pair if name not in nodes]
        ends.append((nodes.index(pair[0]), nodes.index(pair[1])))
        parts.append(f's{"abcdefghijkl"[stream]}:{pair[0]}>{pair[1]}')
    return ','.join(parts), len(nodes) - 1, ends


def some_measured(chance, count, value, weight):
    """For each stream a value and a weight, or None."""
    part = chance.choice([0, 3, 5, 8, 10])
    return [(chance.randrange(value + 1), chance.randrange(1, weight + 1)) if chance.randrange(10) < part else None
            for stream in range(count)]
