"""Which measurement, left out, would make all others agree best."""

from streambalance.fraction import is_less


# The stream and the least change without it, or None if no measured stream can be checked.
# Only a lesser change takes the place of one found before: of several streams the first is told.
def most_suspect(balance):
    best = None
    for stream in range(len(balance.ends)):
        if balance.can_be_checked(stream):
            change = balance.without(stream).least_change()
            if best is None or is_less(change, best[1]):
                best = (stream, change)
    return best
