"""What the tests share: rows to try, refusals to ask for, and the document's words done step by step."""

import inspect
import itertools

from lampwatch.errors import LampError

WRONG_LIGHTS = [
    "",
    "o" * 13,
    "." * 13,
    "o." * 12,
    "x",
    "O",
    "0",
    " ",
    "o.x",
    "xo.",
    "o x.",
    "o.\n",
    "\no.",
    "o/.",
    "o,.",
    "\u2022",
    "oooooooooooO",
]

# Lists that are no books for their length alone; the lights in them are good ones.
WRONG_BOOKS = [
    [],
    ["o."] * 6,
    ["o", ".", "o.", ".o", "oo.", "o.."],
    ["o.oo.o..o..."] * 7,
    ["o"] * 60,
]

# Books of 1 to 5 lights: alike, turned, twice over, one piece over and over, of 1 and of 12 signs.
BOOKS = [
    ["o"],
    ["."],
    ["o.oo.o..o..."],
    ["o", "."],
    ["o.", ".o"],
    ["o..", "oo."],
    ["oo.", "oo.oo."],
    ["o.o.o.o.o.o.", "o..o..o.."],
    ["o..", ".o.", "..o", "oo.", "o..o.."],
    ["o", "oo", "ooo", "oooooooooooo", "ooooooooooo"],
    ["..........o", "..........o."],
    ["o.", "...o", ".", "...o..", "o.o.o."],
    ["oo.o.", ".", "oo.o.", "o.oo.", "oo.o.oo.o."],
    ["o", ".", "o.", ".o", "oo."],
]

FAR = 10 ** 20

# Point 6 lets two lights of up to 12 signs look alike for fewer than 24 signs only; 60 is well beyond it.
LONG_ENOUGH = 60


def all_rows(longest):
    """Every row of 1 to longest signs."""
    rows = []
    for size in range(1, longest + 1):
        rows.extend("".join(signs) for signs in itertools.product("o.", repeat=size))
    return rows


def walk(row, moment, long):
    """What a row shows, found by stepping from moment nought, one sign at a time."""
    place = 0
    for _ in range(abs(moment)):
        place = place + 1 if moment > 0 else place - 1
        if place == len(row):
            place = 0
        if place < 0:
            place = len(row) - 1
    signs = []
    for _ in range(long):
        signs.append(row[place])
        place += 1
        if place == len(row):
            place = 0
    return "".join(signs)


def plain_parting(one, moment, other, other_moment):
    for long in range(LONG_ENOUGH + 1):
        if walk(one, moment, long) != walk(other, other_moment, long):
            return long
    return None


def plain_turn(one, other):
    for moment in range(LONG_ENOUGH):
        if walk(one, moment, LONG_ENOUGH) == walk(other, 0, LONG_ENOUGH):
            return moment
    return None


def plain_shortest(signs):
    """The shortest beginning that, coming round and round, shows all the signs."""
    for size in range(1, len(signs) + 1):
        if walk(signs[:size], 0, len(signs)) == signs:
            return signs[:size]
    return signs


def with_each_place_wrong(wrong):
    """Books of 1 to 5 places, of which one holds the wrong text and all others hold lights."""
    books = []
    for size in range(1, 6):
        for place in range(size):
            books.append(["o."] * place + [wrong] + ["oo."] * (size - place - 1))
    return books


def assert_refused(case, kind, call, *arguments):
    """The call is refused with just this class, which is a LampError and a ValueError."""
    with case.assertRaises(LampError, msg=repr(arguments)) as caught:
        call(*arguments)
    case.assertIs(type(caught.exception), kind, repr(arguments))
    case.assertIsInstance(caught.exception, ValueError)


def assert_keeps_nothing(case, module):
    """The module holds functions, classes, whole numbers and texts alone: nothing that could keep what is handed in."""
    for name, value in vars(module).items():
        if not name.startswith("__"):
            with case.subTest(name=name):
                case.assertTrue(inspect.isfunction(value) or inspect.isclass(value) or type(value) in (int, str))
                if inspect.isfunction(value):
                    case.assertEqual(vars(value), {})
                    case.assertIsNone(value.__defaults__)
