"""Fractions as pairs: what is above and what is below, in lowest terms, what is below from 1 on."""

NOTHING = (0, 1)


def common_divisor(left, right):
    left = abs(left)
    right = abs(right)
    while right != 0:
        rest = left % right
        left = right
        right = rest
    return left


def lowest(above, below):
    divisor = common_divisor(above, below)
    return (above // divisor, below // divisor)


def plus(left, right):
    return lowest(left[0] * right[1] + right[0] * left[1], left[1] * right[1])


def minus(left, right):
    return lowest(left[0] * right[1] - right[0] * left[1], left[1] * right[1])


def times(fraction, number):
    return lowest(fraction[0] * number, fraction[1])


def over(fraction, number):
    return lowest(fraction[0], fraction[1] * number)


def square(fraction):
    return (fraction[0] * fraction[0], fraction[1] * fraction[1])


# What is below keeps from 1 on, also where the divisor is less than nothing.
def quotient(fraction, divisor):
    sign = -1 if divisor[0] < 0 else 1
    return lowest(sign * fraction[0] * divisor[1], sign * fraction[1] * divisor[0])


def is_less(left, right):
    return left[0] * right[1] < right[0] * left[1]
