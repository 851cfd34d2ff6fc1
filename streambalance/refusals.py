"""The refusals of calls: each an error that bears the number which is answered."""


class Refusal(Exception):
    def __init__(self, number):
        Exception.__init__(self, number)
        self.number = number


class OutOfRange(Refusal):
    def __init__(self):
        Refusal.__init__(self, -1)


class NotMeasured(Refusal):
    def __init__(self):
        Refusal.__init__(self, -2)


class NoShare(Refusal):
    def __init__(self):
        Refusal.__init__(self, -2)


class WrongText(Refusal):
    def __init__(self, place):
        Refusal.__init__(self, -1000 - place)


def need_within(number, low, high):
    if number < low or number > high:
        raise OutOfRange()
