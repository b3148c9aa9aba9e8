"""Integers: what is one, and how many digits it has."""

MOST_PASSED = 60


def ten_to(many):
    """Ten to the power of a number, by doubling."""
    result = 1
    factor = 10
    left = many
    while left > 0:
        if left & 1 == 1:
            result = result * factor
        factor = factor * factor
        left = left >> 1
    return result


def has_more_digits(number, many):
    """Whether an integer has more than so many decimal digits."""
    bits = number.bit_length()
    # A decimal digit has between 3.321 and 3.322 bits: only few numbers need the exact power.
    if bits * 1000 <= many * 3321:
        return False
    if (bits - 1) * 1000 >= many * 3322:
        return True
    return abs(number) >= ten_to(many)


def is_integer(value):
    """Whether the value is an integer of any length."""
    return type(value) is int


def is_integer_of(value, many):
    """Whether the value is an integer of at most so many digits."""
    return type(value) is int and not has_more_digits(value, many)


def is_passed_integer(value):
    """Whether the value is an integer that may be passed."""
    return is_integer_of(value, MOST_PASSED)


def is_between(value, least, most):
    """Whether the value is an integer within bounds."""
    return type(value) is int and least <= value <= most
