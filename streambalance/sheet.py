"""The calls on one sheet: answers(calls) reads them out of one list and answers them in one list."""

from streambalance.balance import measured_links
from streambalance.balance import net_inflow
from streambalance.edge import flow_sum
from streambalance.edge import streams_into
from streambalance.edge import streams_out_of
from streambalance.fraction import NOTHING
from streambalance.fraction import lowest
from streambalance.fraction import quotient
from streambalance.plant import QUANTITIES
from streambalance.plant import Plant
from streambalance.proof import is_proof
from streambalance.refusals import NoShare
from streambalance.refusals import NotMeasured
from streambalance.refusals import OutOfRange
from streambalance.refusals import Refusal
from streambalance.refusals import need_within
from streambalance.sheettext import read_text
from streambalance.sheettext import written_text
from streambalance.suspect import most_suspect

MOST_BYTES = 400
MOST_VALUE = 1000000000
MOST_WEIGHT = 1000000
MOST_IN_FRACTION = 1000000000000


def need_quantity(quantity):
    need_within(quantity, 1, QUANTITIES)


def need_stream(plant, stream):
    need_within(stream, 1, len(plant.streams))


def need_nodes(plant, nodes):
    for place, node in enumerate(nodes):
        need_within(node, 1, len(plant.nodes) - 1)
        if node in nodes[:place]:
            raise OutOfRange()


def fractions_in(row, count):
    if len(row) != 2 * count:
        raise OutOfRange()
    found = []
    for place in range(0, len(row), 2):
        need_within(row[place], -MOST_IN_FRACTION, MOST_IN_FRACTION)
        need_within(row[place + 1], 1, MOST_IN_FRACTION)
        found.append(lowest(row[place], row[place + 1]))
    return found


def answer_sheet(plant, numbers, rows):
    text = rows[0]
    need_within(len(text), 0, MOST_BYTES)
    for byte in text:
        need_within(byte, 0, 255)
    found = read_text(text)
    plant.lay_out(found[0], found[1])
    return [len(plant.streams), len(plant.nodes) - 1]


def answer_say(plant, numbers, rows):
    text = written_text(plant.streams, plant.nodes)
    return [len(text)] + text


def answer_measure(plant, numbers, rows):
    need_quantity(numbers[0])
    need_stream(plant, numbers[1])
    need_within(numbers[2], 0, MOST_VALUE)
    need_within(numbers[3], 1, MOST_WEIGHT)
    plant.set_measured(numbers[0], numbers[1], (numbers[2], numbers[3]))
    return []


def answer_forget(plant, numbers, rows):
    need_quantity(numbers[0])
    need_stream(plant, numbers[1])
    if plant.measurements(numbers[0])[numbers[1] - 1] is None:
        raise NotMeasured()
    plant.set_measured(numbers[0], numbers[1], None)
    return []


def answer_adjust(plant, numbers, rows):
    need_quantity(numbers[0])
    balance = plant.balance(numbers[0])
    answer = list(balance.least_change())
    for stream in range(len(plant.streams)):
        found = balance.sort_and_flow(stream)
        answer.append(found[0])
        answer.extend(found[1])
    return answer


def answer_numbers(plant, numbers, rows):
    need_quantity(numbers[0])
    answer = []
    for number in plant.balance(numbers[0]).numbers:
        answer.extend(number)
    return answer


def answer_check(plant, numbers, rows):
    need_quantity(numbers[0])
    flows = fractions_in(rows[0], len(plant.streams))
    node_numbers = fractions_in(rows[1], len(plant.nodes))
    proved = is_proof(plant.stream_ends(), plant.measurements(numbers[0]), flows, node_numbers)
    return [1 if proved else 0]


def answer_imbalance(plant, numbers, rows):
    need_quantity(numbers[0])
    links = measured_links(plant.stream_ends(), plant.measurements(numbers[0]))
    return [net_inflow(node, links) for node in range(1, len(plant.nodes))]


def answer_without(plant, numbers, rows):
    need_quantity(numbers[0])
    need_stream(plant, numbers[1])
    stream = numbers[1] - 1
    balance = plant.balance(numbers[0]).without(stream)
    flow = balance.flow(stream)
    told = [0, 0, 1] if flow is None else [1] + list(flow)
    return told + list(balance.least_change())


def answer_suspect(plant, numbers, rows):
    need_quantity(numbers[0])
    found = most_suspect(plant.balance(numbers[0]))
    if found is None:
        return [0]
    return [found[0] + 1] + list(found[1])


def answer_through(plant, numbers, rows):
    need_quantity(numbers[0])
    need_nodes(plant, rows[0])
    balance = plant.balance(numbers[0])
    inward = streams_into(balance.ends, rows[0])
    outward = streams_out_of(balance.ends, rows[0])
    count = len(inward) + len(outward)
    inflow = flow_sum(balance, inward)
    outflow = flow_sum(balance, outward)
    if inflow is None or outflow is None:
        return [count, 0]
    return [count, 1] + list(inflow) + list(outflow)


def answer_share(plant, numbers, rows):
    need_quantity(numbers[0])
    need_quantity(numbers[1])
    need_stream(plant, numbers[2])
    flow = plant.balance(numbers[0]).flow(numbers[2] - 1)
    divisor = plant.balance(numbers[1]).flow(numbers[2] - 1)
    if flow is None or divisor is None or divisor == NOTHING:
        raise NoShare()
    return list(quotient(flow, divisor))


def answer_told(plant, numbers, rows):
    need_quantity(numbers[0])
    answer = [len(plant.streams)]
    for pair, known in zip(plant.stream_ends(), plant.measurements(numbers[0])):
        answer.extend(pair)
        answer.extend([0, 0, 0] if known is None else [1, known[0], known[1]])
    return answer


# For each call how many whole numbers it has, and how many rows behind them.
FORMS = {
    0: (0, 1),
    1: (0, 0),
    2: (4, 0),
    3: (2, 0),
    4: (1, 0),
    5: (1, 0),
    6: (1, 2),
    7: (1, 0),
    8: (2, 0),
    9: (1, 0),
    10: (1, 1),
    11: (3, 0),
    12: (1, 0),
}

ANSWERERS = {
    0: answer_sheet,
    1: answer_say,
    2: answer_measure,
    3: answer_forget,
    4: answer_adjust,
    5: answer_numbers,
    6: answer_check,
    7: answer_imbalance,
    8: answer_without,
    9: answer_suspect,
    10: answer_through,
    11: answer_share,
    12: answer_told,
}


# Every answerer looks at all that it needs before it changes anything: a refused call has
# left the plant as it was.
def answer_of(plant, call, numbers, rows):
    try:
        return [0] + ANSWERERS[call](plant, numbers, rows)
    except Refusal as refusal:
        return [refusal.number]


# The rows that begin at this place, and the place behind them.
def rows_from(calls, place, count):
    rows = []
    for turn in range(count):
        start = place + 1
        place = start + calls[place]
        rows.append(calls[start:place])
    return (rows, place)


def answers(calls):
    plant = Plant()
    given = []
    place = 0
    while place < len(calls):
        call = calls[place]
        form = FORMS[call]
        behind = place + 1 + form[0]
        numbers = calls[place + 1:behind]
        found = rows_from(calls, behind, form[1])
        answer = answer_of(plant, call, numbers, found[0])
        given.append(len(answer))
        given.extend(answer)
        place = found[1]
    return given
