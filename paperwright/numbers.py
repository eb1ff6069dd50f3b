"""Whole numbers: greatest common divisors, powers, primes."""

# From this many bits on, shrinking by leading bits beats Euclid's plain steps.
LONG = 6000
# Up to this many bits, plain steps find the turn of two numbers quickest.
SHORT = 240


def common(one, other):
    u, next_u = 1, 0
    v, next_v = 0, 1
    while other != 0:
        often = one // other
        one, other = other, one - often * other
        u, next_u = next_u, u - often * next_u
        v, next_v = next_v, v - often * next_v
    if one < 0:
        return (-one, -u, -v)
    return (one, u, v)


def gcd(one, other):
    one, other = abs(one), abs(other)
    while other.bit_length() > LONG:
        # The plain step first: it goes on even where a turn changes nothing.
        one, other = other, one % other
        one, other = turned(turn(one, other), one, other)
        one, other = abs(one), abs(other)
    while other != 0:
        one, other = other, one % other
    return one


# A turn is a tuple (a, b, c, d) with a d - b c = 1 or -1. It takes two numbers
# to a one + b other and c one + d other, which have the same common divisors.
# So a turn found from leading bits alone is never wrong, only less good.
def turn(one, other):
    size = max(one.bit_length(), other.bit_length())
    if size <= SHORT:
        return plain_turn(one, other, size // 2)
    cut = size // 2
    first = turn(one >> cut, other >> cut)
    one, other = turned(first, one, other)
    # Numbers below 0 are turned upright along with their half of the turn.
    first = upright(first, one, other)
    one, other = abs(one), abs(other)
    left = max(one.bit_length(), other.bit_length())
    if left <= cut or left >= size:
        return first
    cut = size - left
    return joined_turns(turn(one >> cut, other >> cut), first)


def plain_turn(one, other, size):
    a, b, c, d = 1, 0, 0, 1
    while other.bit_length() > size:
        often = one // other
        one, other = other, one - often * other
        a, b, c, d = c, d, a - often * c, b - often * d
    return (a, b, c, d)


def turned(by, one, other):
    a, b, c, d = by
    return (a * one + b * other, c * one + d * other)


def upright(by, one, other):
    a, b, c, d = by
    if one < 0:
        a, b = -a, -b
    if other < 0:
        c, d = -c, -d
    return (a, b, c, d)


def joined_turns(second, first):
    a, b, c, d = second
    e, f, g, h = first
    return (a * e + b * g, a * f + b * h, c * e + d * g, c * f + d * h)


def raised(number, exponent):
    power = 1
    while exponent > 0:
        if exponent % 2 == 1:
            power = power * number
        exponent = exponent // 2
        if exponent > 0:
            number = number * number
    return power


def is_prime(number):
    if number < 2:
        return False
    divisor = 2
    while divisor * divisor <= number:
        if number % divisor == 0:
            return False
        divisor = divisor + 1
    return True
