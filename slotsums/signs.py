"""Signs of polynomials at integers, for lists of coefficients with the lowest exponent first."""


def worth_at(coefficients, d):
    """The value of the polynomial at d."""
    found = 0
    for coefficient in reversed(list(coefficients)):
        found = found * d + coefficient
    return found


def sign_at(coefficients, d):
    """The sign of the value at d."""
    worth = worth_at(coefficients, d)
    if worth == 0:
        return 0
    return 1 if worth > 0 else -1


def moved(coefficients, by):
    """The coefficients of the polynomial whose value at d is the former one at d + by."""
    found = list(coefficients)
    for ahead in range(len(found) - 1):
        for at in range(len(found) - 2, ahead - 1, -1):
            found[at] = found[at] + by * found[at + 1]
    return found


def sign_changes(numbers):
    """How often the sign changes in a row of numbers, in which those that are 0 are passed over."""
    signs = [number > 0 for number in numbers if number != 0]
    return len([1 for at in range(1, len(signs)) if signs[at] != signs[at - 1]])


def most_roots(coefficients, low, high):
    """A number of roots between low and high that is not exceeded, and exact if it is 0 or 1.

    The roots between low and high become those above 0 of another polynomial, whose sign changes are counted.
    """
    scaled = []
    power = 1
    for coefficient in moved(coefficients, low):
        scaled.append(coefficient * power)
        power = power * (high - low)
    return sign_changes(moved(scaled[::-1], 1))


def beyond_roots(coefficients):
    """A power of 2, at least 2, that is greater than all roots, by the lengths of the coefficients."""
    own = coefficients[-1].bit_length()
    longest = 0
    for below, coefficient in enumerate(reversed(list(coefficients[:-1]))):
        if coefficient != 0:
            # This many bits, shared out among the exponents between, are rounded up.
            longest = max(longest, -((own - 1 - coefficient.bit_length()) // (below + 1)))
    return 2 << longest


def first_other_sign(coefficients, low, high):
    """The first d behind low with another sign than at low, for a sign that changes once from low to high."""
    sign = sign_at(coefficients, low)
    while high - low > 1:
        middle = (low + high) // 2
        if sign_at(coefficients, middle) == sign:
            low = middle
        else:
            high = middle
    return high


def marks_between(coefficients, low, high):
    """Where signs can begin from low on, up to high: a list of d; None if the stretch has to be parted."""
    if high - low == 1:
        return [low]
    many = most_roots(coefficients, low, high)
    if many == 0:
        return [low, low + 1]
    if many > 1 or sign_at(coefficients, low) == 0 or sign_at(coefficients, high) == 0:
        return None
    change = first_other_sign(coefficients, low, high)
    return [low, change, min(change + 1, high)]


def signs_from_one(coefficients):
    """A list of tuples (start, sign): the longest stretches of d = 1, 2, .. with one sign of the value."""
    if len(coefficients) <= 1:
        return [(1, sign_at(coefficients, 1))]
    limit = beyond_roots(coefficients)
    waiting = [(1, limit)]
    marks = []
    while waiting:
        low, high = waiting.pop()
        own = marks_between(coefficients, low, high)
        if own is None:
            middle = (low + high) // 2
            waiting.append((middle, high))
            waiting.append((low, middle))
        else:
            marks.extend(own)
    found = []
    for start in marks + [limit]:
        sign = sign_at(coefficients, start)
        if not found or found[-1][1] != sign:
            found.append((start, sign))
    return found
