"""Fractions of integers."""

from math import gcd


def reduced(numerator, denominator):
    """Return the reduced fraction (numerator, denominator) of two integers, of which the second one is not 0."""
    common = gcd(numerator, denominator)
    return numerator // common, denominator // common
