"""What the other files need of whole numbers."""

PIECE = 10 ** 64


def is_whole(value):
    """Return, for any value, whether it is an integer."""
    # True and False are instances of int, but they do not count as integers.
    return isinstance(value, int) and not isinstance(value, bool)


def is_integer_within(value, least, most):
    """Return, for any value, whether it is an integer from least to most."""
    return is_whole(value) and least <= value <= most


def common_divisor(one, other):
    """Return the greatest common divisor of two integers from 0, 0 if both are 0."""
    while other != 0:
        one, other = other, one % other
    return one


def reduced(numerator, denominator):
    """Return the quotient as a fraction; the numerator is an integer, the denominator one from 1."""
    shared = common_divisor(denominator, abs(numerator))
    return numerator // shared, denominator // shared


def decimal(number):
    """Return the decimal digits of an integer from 0, however many these are."""
    # Python refuses to write out an integer with very many digits at once.
    pieces = []
    while number >= PIECE:
        number, low = divmod(number, PIECE)
        pieces.append(str(low).zfill(64))
    pieces.append(str(number))
    return "".join(pieces[::-1])
