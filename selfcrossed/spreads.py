"""Spreads: how many turnings of a row make how many rounds, told as polynomials."""

from math import gcd

from selfcrossed.errors import InvalidLetter, InvalidLetters, InvalidNumber, InvalidPolynomial
from selfcrossed.integers import is_from_to, is_integer
from selfcrossed.limits import MOST_SIDES
from selfcrossed.links import stretch_of
from selfcrossed.rows import check_letter, check_row, check_size
from selfcrossed.turnings import ALL_TURNINGS, rounds_counted

MOST_VALUE = 10 ** 6


def spread_along(row):
    """Give the polynomial that tells how many turnings without `x` make how many rounds."""
    check_row(row)
    return spread_of(rounds_counted(row, "=o"))


def spread_in_all(row):
    """Give the polynomial that tells how many turnings make how many rounds."""
    check_row(row)
    check_size(row, MOST_SIDES)
    return spread_of(rounds_counted(row, ALL_TURNINGS))


def value_at(polynomial, number):
    """Give the value of the polynomial at the number."""
    check_polynomial(polynomial)
    if not is_from_to(number, -MOST_VALUE, MOST_VALUE):
        raise InvalidNumber(number)
    worth = 0
    for factor in reversed(polynomial):
        worth = worth * number + factor
    return worth


def turned_at(row, letter, other):
    """Give the tour of the row with these two linked letters turned along and all others left straight."""
    check_row(row)
    check_letter(row, letter)
    check_letter(row, other)
    if stretch_of(row, letter).count(other) != 1:
        raise InvalidLetter(other)
    first, second, third, fourth = [place for place, sign in enumerate(row) if sign in (letter, other)]
    # The second and the third place stay between what changes places.
    middle = row[second:third + 1]
    return row[:first + 1] + row[third + 1:fourth] + middle + row[first + 1:second] + row[fourth:]


def without(row, letters):
    """Give the row without these letters."""
    check_row(row)
    check_letters(row, letters)
    return "".join([letter for letter in row if letter not in letters])


def greatest_rounds(row):
    """Give the greatest number of rounds that any turnings make."""
    check_row(row)
    check_size(row, MOST_SIDES)
    return max(rounds_counted(row, ALL_TURNINGS))


def first_greatest(row):
    """Give the first turnings that make the greatest number of rounds."""
    check_row(row)
    check_size(row, MOST_SIDES)
    counted = rounds_counted(row, ALL_TURNINGS)
    return counted[max(counted)][1]


def chance_of_one(row):
    """Give the part of all turnings that make one round, as top and bottom without a common divisor."""
    check_row(row)
    check_size(row, MOST_SIDES)
    counted = rounds_counted(row, ALL_TURNINGS)
    top, bottom = counted[1][0], sum([counted[number][0] for number in counted])
    divisor = gcd(top, bottom)
    return top // divisor, bottom // divisor


def check_polynomial(polynomial):
    """Raise the error for what is no tuple of integers whose last one is not 0."""
    if not isinstance(polynomial, tuple):
        raise InvalidPolynomial(None)
    for index, factor in enumerate(polynomial):
        if not is_integer(factor):
            raise InvalidPolynomial(index)
    if polynomial and polynomial[-1] == 0:
        raise InvalidPolynomial(len(polynomial) - 1)


def check_letters(row, letters):
    """Raise the error for what is no string of unlike letters of the row, or one of all its letters."""
    if not isinstance(letters, str):
        raise InvalidLetters(None)
    for index, sign in enumerate(letters):
        if sign not in row or sign in letters[:index]:
            raise InvalidLetters(index)
    if 2 * len(letters) == len(row):
        raise InvalidLetters(None)


def spread_of(counted):
    """Give the polynomial that has for the power k how many are counted for the number k + 1."""
    return tuple([counted[number][0] if number in counted else 0 for number in range(1, max(counted) + 1)])
