"""What sets of widths are behind their starts: the widths whose greatest common divisors with a length are kept.

Here kept is a dict from divisors of the length to True.
"""

from math import gcd, isqrt, lcm


def divisors_of(number):
    """The divisors of a number, ascending."""
    low = [divisor for divisor in range(1, isqrt(number) + 1) if number % divisor == 0]
    return low + [number // divisor for divisor in low[::-1] if divisor * divisor != number]


def primes_of(number):
    """The primes that divide a number."""
    found = []
    left = number
    prime = 2
    while prime * prime <= left:
        if left % prime == 0:
            found.append(prime)
        while left % prime == 0:
            left = left // prime
        prime = prime + 1
    return found + [left] if left > 1 else found


def in_tail(width, length, kept):
    """Whether the width is kept."""
    return gcd(width, length) in kept


def least_told(length, told):
    """The least length, and what it tells, that tells the same; told is a dict from the divisors of the length."""
    least = length
    left = told
    for prime in primes_of(length):
        while least % prime == 0 and is_enough(least // prime, left):
            least = least // prime
            left = {divisor: left[divisor] for divisor in left if least % divisor == 0}
    return least, left


def is_enough(shorter, told):
    """Whether the greatest common divisor with a shorter length tells what is told of each divisor."""
    return all([told[divisor] == told[gcd(divisor, shorter)] for divisor in told])


def least_in_tail(start, length, kept):
    """The least width from the start on that is kept, None if there is none."""
    best = None
    for divisor in kept:
        # The widths with this greatest common divisor are its multiples by what has none with the rest of the length.
        times = -(-start // divisor)
        while gcd(times, length // divisor) != 1:
            times = times + 1
        if best is None or divisor * times < best:
            best = divisor * times
    return best


def decided(sign, in_one, in_other):
    """Whether what is, or is not, in two sets is in the set that the sign makes of them."""
    if sign == "&":
        return in_one and in_other
    if sign == "|":
        return in_one or in_other
    if sign == "-":
        return in_one and not in_other
    return in_one != in_other


def combined(one, sign, other):
    """The head, start, length and what is kept of the set that the sign makes of two sets; perhaps not the least."""
    start = one.start if one.start > other.start else other.start
    head = [width for width in range(1, start) if decided(sign, width in one, width in other)]
    length = lcm(one.length, other.length)
    ones, others = one.divisors, other.divisors
    kept = {
        divisor: True for divisor in divisors_of(length)
        if decided(sign, in_tail(divisor, one.length, ones), in_tail(divisor, other.length, others))
    }
    return head, start, length, kept
