"""Books of lights: what fits a sight, how long to watch, which lights are twins, and what comes next."""

from lampwatch.errors import NoBook, NoFit, NoSight
from lampwatch.lights import (
    DARK,
    LIT,
    LONGEST_SIGHT,
    check_light,
    lit_and_dark_alone,
    parting,
    seen,
    shortest,
    sign_at,
    turn,
)

MOST_LIGHTS = 5


def check_book(book):
    if len(book) < 1 or len(book) > MOST_LIGHTS:
        raise NoBook("a book has 1 to 5 lights")
    for light in book:
        check_light(light)


def check_sight(sight):
    if len(sight) > LONGEST_SIGHT:
        raise NoSight("a sight has at most 100 signs")
    if not lit_and_dark_alone(sight):
        raise NoSight("a sight has the signs o and . alone")


def fitting_moments(light, sight):
    return [moment for moment in range(len(shortest(light))) if seen(light, moment, len(sight)) == sight]


def fitting(book, sight):
    check_book(book)
    check_sight(sight)
    found = []
    for number, light in enumerate(book):
        for moment in fitting_moments(light, sight):
            found.append((number, moment))
    return found


def some_fitting(book, sight):
    found = fitting(book, sight)
    if len(found) == 0:
        raise NoFit("no light of the book shows this sight")
    return found


def greatest_parting(one, other):
    greatest = 0
    # From a row's length on the same looks come again, so these moments stand for all.
    for moment in range(len(one)):
        for other_moment in range(len(other)):
            long = parting(one, moment, other, other_moment)
            if long is not None:
                greatest = max(greatest, long)
    return greatest


def watch(book):
    check_book(book)
    greatest = 0
    for number, one in enumerate(book):
        # The slice begins with the light itself: it may part from itself, begun at another moment.
        for other in book[number:]:
            greatest = max(greatest, greatest_parting(one, other))
    return greatest


def twins(book):
    check_book(book)
    found = []
    for lesser in range(len(book)):
        for greater in range(lesser + 1, len(book)):
            moment = turn(book[lesser], book[greater])
            if moment is not None:
                found.append((lesser, greater, moment))
    return found


def sure(book, sight):
    found = some_fitting(book, sight)
    first = found[0][0]
    last = found[-1][0]
    # What fits comes by rising numbers, so all is of one light just where the first and the last are.
    return first if first == last else None


def coming(book, sight):
    signs = [sign_at(book[number], moment + len(sight)) for number, moment in some_fitting(book, sight)]
    return "".join([sign for sign in (DARK, LIT) if sign in signs])
