"""What the tests share: rows to try, refusals to ask for, and the document's words done step by step."""

import itertools

from lampwatch.errors import LampError

WRONG_LIGHTS = [
    "",
    "o" * 13,
    "." * 13,
    "o." * 12,
    "x",
    "O",
    "0",
    " ",
    "o.x",
    "xo.",
    "o x.",
    "o.\n",
    "\no.",
    "o/.",
    "o,.",
    "\u2022",
    "oooooooooooO",
]

FAR = 10 ** 20


def all_rows(longest):
    """Every row of 1 to longest signs."""
    rows = []
    for size in range(1, longest + 1):
        rows.extend("".join(signs) for signs in itertools.product("o.", repeat=size))
    return rows


def walk(row, moment, long):
    """What a row shows, found by stepping from moment nought, one sign at a time."""
    place = 0
    for _ in range(abs(moment)):
        place = place + 1 if moment > 0 else place - 1
        if place == len(row):
            place = 0
        if place < 0:
            place = len(row) - 1
    signs = []
    for _ in range(long):
        signs.append(row[place])
        place += 1
        if place == len(row):
            place = 0
    return "".join(signs)


def assert_refused(case, kind, call, *arguments):
    """The call is refused with just this class, which is a LampError and a ValueError."""
    with case.assertRaises(LampError, msg=repr(arguments)) as caught:
        call(*arguments)
    case.assertIs(type(caught.exception), kind, repr(arguments))
    case.assertIsInstance(caught.exception, ValueError)
