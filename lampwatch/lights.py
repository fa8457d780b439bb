"""Lights: what they show, how they turn and part, and two of them seen as one."""

from lampwatch.errors import NoLight, NoSight, TooLong

LIT = "o"
DARK = "."
LONGEST_ROW = 12
LONGEST_SIGHT = 100


def lit_and_dark_alone(text):
    for sign in text:
        if sign != LIT and sign != DARK:
            return False
    return True


def check_light(light):
    if len(light) < 1 or len(light) > LONGEST_ROW:
        raise NoLight("a light has 1 to 12 signs")
    if not lit_and_dark_alone(light):
        raise NoLight("a light has the signs o and . alone")


def sign_at(row, moment):
    # The remainder is never below nought, so moments ahead of moment nought need no care of their own.
    return row[moment % len(row)]


def shortest_row(row):
    for size in range(1, len(row)):
        if len(row) % size == 0 and row[:size] * (len(row) // size) == row:
            return row[:size]
    return row


def sign_of_both(one, other, moment):
    if sign_at(one, moment) == LIT or sign_at(other, moment) == LIT:
        return LIT
    return DARK


def seen(light, moment, long):
    check_light(light)
    if long < 0 or long > LONGEST_SIGHT:
        raise NoSight("a sight has 0 to 100 signs")
    return "".join([sign_at(light, moment + step) for step in range(long)])


def shortest(light):
    check_light(light)
    return shortest_row(light)


def turn(one, other):
    row = shortest(one)
    wanted = shortest(other)
    # From the row's length on the same looks come again, so the least moment lies below it.
    for moment in range(len(row)):
        if row[moment:] + row[:moment] == wanted:
            return moment
    return None


def parting(one, moment, other, other_moment):
    check_light(one)
    check_light(other)
    # Lights that part do so within fewer signs than both rows have together, so no further look is needed.
    for step in range(len(one) + len(other)):
        if sign_at(one, moment + step) != sign_at(other, other_moment + step):
            return step + 1
    return None


def both(one, other):
    check_light(one)
    check_light(other)
    # After so many moments both rows begin anew together, so what is seen comes round by then.
    span = len(one) * len(other)
    row = shortest_row("".join([sign_of_both(one, other, moment) for moment in range(span)]))
    if len(row) > LONGEST_ROW:
        raise TooLong("the two seen as one have a shortest row of more than 12 signs")
    return row
