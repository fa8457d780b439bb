import inspect
import itertools
import unittest

from lampwatch import books
from lampwatch.books import coming, fitting, sure, twins, watch
from lampwatch.errors import NoBook, NoFit, NoLight, NoSight
from tests.helper import (
    BOOKS,
    LONG_ENOUGH,
    WRONG_BOOKS,
    WRONG_LIGHTS,
    all_rows,
    assert_keeps_nothing,
    assert_refused,
    plain_shortest,
    plain_turn,
    walk,
    with_each_place_wrong,
)

WITH_SIGHT = (fitting, sure, coming)
WITHOUT_SIGHT = (watch, twins)

WRONG_SIGHTS = [
    "o" * 101,
    "." * 101,
    "o." * 51,
    "o" * 1000,
    "x",
    "O",
    "0",
    " ",
    "/",
    "o/.",
    "o,.",
    "o.x",
    "xo.",
    "o.o\n",
    "\no.",
    "\t",
    "\u2022",
    "o" * 99 + "x",
    "x" + "o" * 99,
    "o" * 100 + "x",
]


def plain_fitting(book, sight):
    found = []
    for number, light in enumerate(book):
        for moment in range(len(plain_shortest(light + light))):
            if walk(light, moment, len(sight)) == sight:
                found.append((number, moment))
    return found


def plain_watch(book):
    """The least number of signs of which no sight fits two that do not look alike for ever."""
    looks = {walk(light, moment, LONG_ENOUGH) for light in book for moment in range(len(light))}
    for long in range(LONG_ENOUGH):
        if len({look[:long] for look in looks}) == len(looks):
            return long
    raise AssertionError(book)


def plain_twins(book):
    pairs = itertools.combinations(enumerate(book), 2)
    found = [(lesser, greater, plain_turn(one, other)) for (lesser, one), (greater, other) in pairs]
    return [twin for twin in found if twin[2] is not None]


def plain_coming(book, sight):
    signs = {walk(book[number], moment, len(sight) + 1)[-1] for number, moment in plain_fitting(book, sight)}
    return "".join(sorted(signs))


def with_one_sign_turned(sight, place):
    return sight[:place] + ("." if sight[place] == "o" else "o") + sight[place + 1:]


def sights_to_try(book):
    """Every sight of up to five signs, and longer ones of the book's lights, also with one sign turned."""
    sights = [""] + all_rows(5)
    for light in book:
        for moment in (0, 1, len(light) - 1):
            for long in (9, 23, 100):
                sight = walk(light, moment, long)
                sights.append(sight)
                sights.extend(with_one_sign_turned(sight, place) for place in (0, long // 2, long - 1))
    return sights


class TestInterface(unittest.TestCase):
    def test_names_and_arguments(self):
        wanted = {
            "fitting": ["book", "sight"],
            "watch": ["book"],
            "twins": ["book"],
            "sure": ["book", "sight"],
            "coming": ["book", "sight"],
        }
        for name, arguments in wanted.items():
            with self.subTest(name=name):
                self.assertEqual(list(inspect.signature(getattr(books, name)).parameters), arguments)

    def test_arguments_by_name(self):
        self.assertEqual(fitting(book=["o..", "oo."], sight="o."), [(0, 0), (1, 1)])
        self.assertEqual(watch(book=["o..", "oo."]), 3)
        self.assertEqual(twins(book=["o..", ".o."]), [(0, 1, 2)])
        self.assertEqual(sure(book=["o..", "oo."], sight="oo"), 1)
        self.assertEqual(coming(book=["o..", "oo."], sight="oo"), ".")

    def test_kinds(self):
        for told in (fitting(["o.", ".o"], "o"), twins(["o.", ".o"])):
            self.assertIs(type(told), list)
            for row in told:
                self.assertIs(type(row), tuple)
                for number in row:
                    self.assertIs(type(number), int)
        self.assertIs(type(fitting(["o"], ".")), list)
        self.assertIs(type(twins(["o"])), list)
        self.assertIs(type(watch(["o"])), int)
        self.assertIs(type(watch(["o."])), int)
        self.assertIs(type(sure(["o", "."], "o")), int)
        self.assertIs(type(sure(["o", "."], ".")), int)
        self.assertIs(type(coming(["o."], "o")), str)


class TestWhatABookIs(unittest.TestCase):
    """Point 7."""

    def test_lists_of_one_to_five_lights_are_books(self):
        for size in range(1, 6):
            book = ["o.oo.o..o..."] * size
            self.assertEqual(fitting(book, "oo"), [(number, 2) for number in range(size)])
            self.assertEqual(watch(book), watch(book[:1]))
            self.assertEqual(len(twins(book)), size * (size - 1) // 2)
            self.assertEqual(sure(book, "oo"), 0 if size == 1 else None)
            self.assertEqual(coming(book, "oo"), ".")

    def test_every_light_may_stand_in_a_book(self):
        for row in all_rows(12):
            self.assertEqual(twins([row]), [])

    def test_lists_of_another_length_are_refused(self):
        for wrong in WRONG_BOOKS:
            for call in WITHOUT_SIGHT:
                assert_refused(self, NoBook, call, wrong)
            for call in WITH_SIGHT:
                for sight in ("", "o", "o" * 100):
                    assert_refused(self, NoBook, call, wrong, sight)

    def test_a_text_that_is_no_light_is_refused_in_each_place(self):
        for wrong in WRONG_LIGHTS:
            for book in with_each_place_wrong(wrong):
                for call in WITHOUT_SIGHT:
                    assert_refused(self, NoLight, call, book)
                for call in WITH_SIGHT:
                    for sight in ("", "o", "oooo"):
                        assert_refused(self, NoLight, call, book, sight)

    def test_a_wrong_length_comes_ahead_of_a_wrong_light(self):
        for wrong in WRONG_LIGHTS:
            for place in range(6):
                book = ["o."] * place + [wrong] + ["o."] * (5 - place)
                for call in WITHOUT_SIGHT:
                    assert_refused(self, NoBook, call, book)
                for call in WITH_SIGHT:
                    assert_refused(self, NoBook, call, book, "o")


class TestWhatASightIs(unittest.TestCase):
    """Point 8, and in which order points 7, 8, 11 and 12 refuse."""

    def test_other_texts_are_refused(self):
        for wrong in WRONG_SIGHTS:
            for book in (["o"], ["."], ["o."], ["o..", "oo."], ["o.oo.o..o..."] * 5):
                for call in WITH_SIGHT:
                    assert_refused(self, NoSight, call, book, wrong)

    def test_another_sign_is_refused_in_each_place_of_a_long_sight(self):
        for place in range(100):
            sight = "o" * place + "x" + "o" * (99 - place)
            for call in WITH_SIGHT:
                assert_refused(self, NoSight, call, ["o"], sight)

    def test_a_wrong_light_comes_ahead_of_a_wrong_sight(self):
        for wrong in WRONG_LIGHTS:
            for book in with_each_place_wrong(wrong):
                for sight in ("x", "o" * 101):
                    for call in WITH_SIGHT:
                        assert_refused(self, NoLight, call, book, sight)

    def test_a_wrong_book_comes_ahead_of_a_wrong_sight(self):
        for wrong in WRONG_BOOKS + [["x"] * 6, ["o"] * 5 + [""]]:
            for sight in WRONG_SIGHTS:
                for call in WITH_SIGHT:
                    assert_refused(self, NoBook, call, wrong, sight)

    def test_a_wrong_sight_comes_ahead_of_no_fit(self):
        for sight in WRONG_SIGHTS:
            for call in (sure, coming):
                assert_refused(self, NoSight, call, ["oo."], sight)

    def test_a_wrong_light_comes_ahead_of_no_fit(self):
        for call in (sure, coming):
            assert_refused(self, NoLight, call, [".", "x"], "o")
            assert_refused(self, NoLight, call, ["x", "."], "o")
            assert_refused(self, NoBook, call, [], "o")
            assert_refused(self, NoBook, call, ["."] * 6, "o")


class TestFitting(unittest.TestCase):
    """Point 8."""

    def test_ordinary_sights(self):
        book = ["o..", "oo."]
        self.assertEqual(fitting(book, "o"), [(0, 0), (1, 0), (1, 1)])
        self.assertEqual(fitting(book, "."), [(0, 1), (0, 2), (1, 2)])
        self.assertEqual(fitting(book, "o."), [(0, 0), (1, 1)])
        self.assertEqual(fitting(book, "oo"), [(1, 0)])
        self.assertEqual(fitting(book, "..o..o"), [(0, 1)])
        self.assertEqual(fitting(book, ".oo.oo.o"), [(1, 2)])

    def test_nothing_fits(self):
        self.assertEqual(fitting(["o..", "oo."], "ooo"), [])
        self.assertEqual(fitting(["o..", "oo."], "o..oo"), [])
        self.assertEqual(fitting(["."], "o"), [])
        self.assertEqual(fitting(["o"], "o" * 99 + "."), [])

    def test_the_empty_sight_fits_all(self):
        self.assertEqual(fitting(["o"], ""), [(0, 0)])
        self.assertEqual(fitting(["o..", "."], ""), [(0, 0), (0, 1), (0, 2), (1, 0)])
        self.assertEqual(fitting(["o.oo.o..o..."], ""), [(0, moment) for moment in range(12)])

    def test_sights_of_a_hundred_signs(self):
        self.assertEqual(fitting(["o.", "oo."], "o." * 50), [(0, 0)])
        self.assertEqual(fitting(["o.", "oo."], ".o" * 50), [(0, 1)])
        self.assertEqual(fitting(["o.", "oo.", "o"], "oo." * 33 + "o"), [(1, 0)])
        self.assertEqual(fitting(["o.", "oo.", "o"], "oo." * 33 + "."), [])
        self.assertEqual(fitting(["o", "oo", "."], "o" * 100), [(0, 0), (1, 0)])

    def test_moments_lie_below_the_measure_alone(self):
        self.assertEqual(fitting(["o.o.o.o.o.o."], ""), [(0, 0), (0, 1)])
        self.assertEqual(fitting(["o.o.o.o.o.o."], "o"), [(0, 0)])
        self.assertEqual(fitting(["oo.oo.", "oo."], "o"), [(0, 0), (0, 1), (1, 0), (1, 1)])
        self.assertEqual(fitting(["oooooooooooo", "..........."], ""), [(0, 0), (1, 0)])

    def test_lights_that_are_alike_each_fit(self):
        self.assertEqual(fitting(["o..", ".o.", "o..", "..o"], "o.."), [(0, 0), (1, 1), (2, 0), (3, 2)])
        self.assertEqual(fitting(["o.", "o.o.", ".o.o.o"], "o.o"), [(0, 0), (1, 0), (2, 1)])

    def test_as_stepping_tells_it(self):
        for book in BOOKS:
            for sight in sights_to_try(book):
                self.assertEqual(fitting(book, sight), plain_fitting(book, sight), (book, sight))

    def test_every_small_light_as_stepping_tells_it(self):
        for row in all_rows(5):
            for sight in [""] + all_rows(6):
                self.assertEqual(fitting([row], sight), plain_fitting([row], sight), (row, sight))


class TestWatch(unittest.TestCase):
    """Point 9."""

    def test_nought_where_none_part(self):
        for book in (["o"], ["."], ["oooooooooooo"], ["o", "o"], ["o", "oo", "ooo", "oooooooooooo", "ooooooooooo"]):
            self.assertEqual(watch(book), 0, book)
        self.assertEqual(watch([".", "..........."]), 0)

    def test_two_lights(self):
        self.assertEqual(watch(["o", "."]), 1)
        self.assertEqual(watch(["o..", "oo."]), 3)
        self.assertEqual(watch(["...o", "...o.."]), 8)
        self.assertEqual(watch(["o", "oo."]), 3)

    def test_a_light_and_itself(self):
        self.assertEqual(watch(["o."]), 1)
        self.assertEqual(watch(["oo."]), 2)
        self.assertEqual(watch(["o.o.o.o."]), 1)
        self.assertEqual(watch(["o..........."]), 11)

    def test_lights_that_are_alike_part_as_a_light_and_itself(self):
        self.assertEqual(watch(["oo.", "oo."]), 2)
        self.assertEqual(watch(["oo.", "o.o", "oo.oo."]), 2)
        self.assertEqual(watch(["o.", ".o", "o.o."]), 1)

    def test_a_light_and_itself_count_wherever_it_stands(self):
        # Beside "o" each of the others parts sooner than the long one does from itself.
        long_light = "o..........."
        for place in range(5):
            book = ["o"] * place + [long_light] + ["o"] * (4 - place)
            self.assertEqual(watch(book), 11, book)

    def test_any_two_places_count(self):
        for first, second in itertools.permutations(range(5), 2):
            book = ["o"] * 5
            book[first] = "..........o"
            book[second] = "..........o."
            self.assertEqual(watch(book), 22, book)

    def test_any_moments_count(self):
        for moment in range(11):
            for other_moment in range(12):
                one = walk("..........o", moment, 11)
                other = walk("..........o.", other_moment, 12)
                self.assertEqual(watch([one, other]), 22, (one, other))

    def test_as_large_as_lights_of_eleven_and_twelve_signs_allow(self):
        self.assertEqual(watch(["..........o", "..........o."]), 22)
        self.assertEqual(watch(["oooooooooo.o", "oooooooooo."]), 22)

    def test_as_the_sights_tell_it(self):
        for book in BOOKS:
            self.assertEqual(watch(book), plain_watch(book), book)

    def test_two_small_lights_as_the_sights_tell_it(self):
        rows = all_rows(4) + ["o.oo.", "..o..o", "oo.oo.o"]
        for one in rows:
            self.assertEqual(watch([one]), plain_watch([one]), one)
            for other in rows:
                self.assertEqual(watch([one, other]), plain_watch([one, other]), (one, other))

    def test_what_fits_a_sight_so_long_looks_alike_for_ever_and_one_sign_less_is_not_enough(self):
        for book in BOOKS:
            long = watch(book)
            starts = fitting(book, "")
            enough = [looks_of(book, walk(book[number], moment, long)) for number, moment in starts]
            self.assertEqual({len(looks) for looks in enough}, {1}, book)
            if long > 0:
                short = [looks_of(book, walk(book[number], moment, long - 1)) for number, moment in starts]
                self.assertGreater(max(len(looks) for looks in short), 1, book)


def looks_of(book, sight):
    return {walk(book[number], moment, LONG_ENOUGH) for number, moment in fitting(book, sight)}


class TestTwins(unittest.TestCase):
    """Point 10."""

    def test_ordinary_twins(self):
        self.assertEqual(twins(["o..", "..o"]), [(0, 1, 1)])
        self.assertEqual(twins(["o..", ".o."]), [(0, 1, 2)])
        self.assertEqual(twins(["o..", "o.."]), [(0, 1, 0)])
        self.assertEqual(twins(["o", "..o", ".", "o.."]), [(1, 3, 2)])

    def test_none(self):
        for book in (["o"], ["o.oo.o..o..."], ["o", "."], ["o.", "o.."], ["o..", "oo."], ["oo.o..", "oo..o."]):
            self.assertEqual(twins(book), [], book)
        self.assertEqual(twins(["o", ".", "o.", "o..", "oo."]), [])

    def test_the_turn_is_from_the_lesser_number_to_the_greater(self):
        self.assertEqual(twins(["oo.o...", "...oo.o"]), [(0, 1, 4)])
        self.assertEqual(twins(["...oo.o", "oo.o..."]), [(0, 1, 3)])

    def test_twice_over_and_one_piece_over_and_over(self):
        self.assertEqual(twins(["oo.", "oo.oo."]), [(0, 1, 0)])
        self.assertEqual(twins(["oo.oo.", "o.oo.oo.o"]), [(0, 1, 1)])
        self.assertEqual(twins(["o.o.o.o.o.o.", ".o"]), [(0, 1, 1)])

    def test_three_and_more_that_are_alike_in_order(self):
        self.assertEqual(twins(["o.", ".o", "o."]), [(0, 1, 1), (0, 2, 0), (1, 2, 1)])
        self.assertEqual(
            twins(["o..", ".o.", "..o", "oo.", "o..o.."]),
            [(0, 1, 2), (0, 2, 1), (0, 4, 0), (1, 2, 2), (1, 4, 1), (2, 4, 2)],
        )
        self.assertEqual(
            twins(["o", "oo", "ooo", "oooooooooooo", "ooooooooooo"]),
            [(lesser, greater, 0) for lesser, greater in itertools.combinations(range(5), 2)],
        )

    def test_two_families_in_one_book(self):
        self.assertEqual(twins(["o.", "oo.", ".o", ".oo", "o.o"]), [(0, 2, 1), (1, 3, 2), (1, 4, 1), (3, 4, 2)])

    def test_a_light_of_twelve_signs_and_itself_turned(self):
        row = "o.oo.o..o..."
        for moment in range(12):
            self.assertEqual(twins([row, walk(row, moment, 12)]), [(0, 1, moment)])

    def test_as_the_sights_tell_it(self):
        for book in BOOKS:
            self.assertEqual(twins(book), plain_twins(book), book)
        for one, other in itertools.product(all_rows(4), repeat=2):
            self.assertEqual(twins([one, other]), plain_twins([one, other]), (one, other))


class TestSure(unittest.TestCase):
    """Point 11."""

    def test_one_light_at_one_moment(self):
        self.assertEqual(sure(["o..", "oo."], ".."), 0)
        self.assertEqual(sure(["o..", "oo."], "oo"), 1)
        self.assertEqual(sure(["o", ".", "o.", "oo.", "o.oo.o..o..."], "o..o..."), 4)

    def test_one_light_at_several_moments(self):
        self.assertEqual(sure(["oo.o.", "."], "o"), 0)
        self.assertEqual(sure([".", "oo.o."], "o"), 1)
        self.assertEqual(sure([".", ".", "oo.o.", "."], "o"), 2)
        self.assertEqual(sure(["o.oo.o..o..."], ""), 0)

    def test_several_lights(self):
        self.assertIsNone(sure(["o..", "oo."], "o."))
        self.assertIsNone(sure(["o..", "oo."], ""))
        self.assertIsNone(sure(["o", "."], ""))
        self.assertIsNone(sure(["o.", ".", "o"], "o"))

    def test_lights_that_are_alike_are_several(self):
        self.assertIsNone(sure(["o.", "o."], "o."))
        self.assertIsNone(sure(["o.", ".o"], "o." * 50))
        self.assertIsNone(sure([".", "oo.", "o", "oo.oo."], "oo.oo."))

    def test_a_book_of_one_light(self):
        self.assertEqual(sure(["o."], ""), 0)
        self.assertEqual(sure(["o."], "o.o"), 0)
        self.assertEqual(sure(["o"], "o" * 100), 0)

    def test_sights_of_a_hundred_signs(self):
        self.assertEqual(sure(["o.", "oo."], "o." * 50), 0)
        self.assertEqual(sure(["o.", "oo."], "oo." * 33 + "o"), 1)
        self.assertEqual(sure(["..........o", "..........o."], "..........o" * 9 + "."), 0)

    def test_a_sight_that_nothing_fits_is_refused(self):
        assert_refused(self, NoFit, sure, ["."], "o")
        assert_refused(self, NoFit, sure, ["o..", "oo."], "ooo")
        assert_refused(self, NoFit, sure, ["o.", "o.", "o."], "oo")
        assert_refused(self, NoFit, sure, ["o"], "o" * 99 + ".")

    def test_as_stepping_tells_it(self):
        for book in BOOKS:
            for sight in sights_to_try(book):
                numbers = sorted({number for number, moment in plain_fitting(book, sight)})
                if numbers == []:
                    assert_refused(self, NoFit, sure, book, sight)
                else:
                    wanted = numbers[0] if len(numbers) == 1 else None
                    self.assertEqual(sure(book, sight), wanted, (book, sight))


class TestComing(unittest.TestCase):
    """Point 12."""

    def test_dark_alone(self):
        self.assertEqual(coming(["o..", "oo."], "oo"), ".")
        self.assertEqual(coming(["o.", "o.."], "o"), ".")
        self.assertEqual(coming(["."], ""), ".")

    def test_light_alone(self):
        self.assertEqual(coming(["o..", "oo."], ".."), "o")
        self.assertEqual(coming(["o.", "oo."], "."), "o")
        self.assertEqual(coming(["o"], ""), "o")

    def test_both_of_two_lights(self):
        self.assertEqual(coming(["o..", "oo."], "o."), ".o")
        self.assertEqual(coming(["oo.", "o.."], "o."), ".o")
        self.assertEqual(coming(["o", "."], ""), ".o")
        self.assertEqual(coming([".", "o"], ""), ".o")

    def test_both_of_one_light_at_several_moments(self):
        self.assertEqual(coming(["oo."], "o"), ".o")
        self.assertEqual(coming(["o.."], "."), ".o")
        self.assertEqual(coming(["o."], ""), ".o")

    def test_behind_the_last_sign_the_first_again(self):
        self.assertEqual(coming(["o.oo.o..o..."], "o.oo.o..o..."), "o")
        self.assertEqual(coming(["oo."], "oo."), "o")
        self.assertEqual(coming([".o"], "o"), ".")

    def test_sights_of_a_hundred_signs(self):
        self.assertEqual(coming(["o.", "oo."], "o." * 50), "o")
        self.assertEqual(coming(["o.", "oo."], ".o" * 50), ".")
        self.assertEqual(coming(["o.", "oo."], "oo." * 33 + "o"), "o")
        self.assertEqual(coming(["o.", "oo."], "o.o" * 33 + "o"), ".")

    def test_a_sight_that_nothing_fits_is_refused(self):
        assert_refused(self, NoFit, coming, ["."], "o")
        assert_refused(self, NoFit, coming, ["o..", "oo."], "ooo")
        assert_refused(self, NoFit, coming, ["o.", "o.", "o."], "oo")
        assert_refused(self, NoFit, coming, ["o"], "o" * 99 + ".")

    def test_as_stepping_tells_it(self):
        for book in BOOKS:
            for sight in sights_to_try(book):
                wanted = plain_coming(book, sight)
                if wanted == "":
                    assert_refused(self, NoFit, coming, book, sight)
                else:
                    self.assertEqual(coming(book, sight), wanted, (book, sight))


class TestNothingKept(unittest.TestCase):
    """Point 1."""

    def ask_all(self, book):
        told = [watch(book), twins(book)]
        for sight in ("", "o", ".", "o."):
            told.append(fitting(book, sight))
            if told[-1] != []:
                told.extend([sure(book, sight), coming(book, sight)])
        return told

    def test_a_book_stays_as_it_was(self):
        for book in BOOKS:
            handed = list(book)
            self.ask_all(handed)
            self.assertEqual(handed, book)

    def test_a_refused_book_stays_as_it_was(self):
        for book in ([], ["o."] * 6, ["o.", "x", "oo."]):
            handed = list(book)
            for call in WITH_SIGHT:
                with self.assertRaises(ValueError):
                    call(handed, "o")
            for call in WITHOUT_SIGHT:
                with self.assertRaises(ValueError):
                    call(handed)
            self.assertEqual(handed, book)

    def test_the_same_is_told_again_when_a_told_list_was_changed(self):
        book = ["o.", ".o", "o.o."]
        for call, arguments in ((fitting, (book, "o")), (fitting, (book, "oo")), (twins, (book,)), (twins, (["o"],))):
            told = call(*arguments)
            wanted = list(told)
            told.append((9, 9))
            told[0] = "changed"
            self.assertEqual(call(*arguments), wanted)
            self.assertIsNot(call(*arguments), call(*arguments))

    def test_the_same_is_told_again_also_behind_refusals(self):
        first = [self.ask_all(book) for book in BOOKS]
        assert_refused(self, NoBook, watch, [])
        assert_refused(self, NoLight, twins, ["x"])
        assert_refused(self, NoSight, fitting, ["o"], "x")
        assert_refused(self, NoFit, coming, ["o"], ".")
        self.assertEqual([self.ask_all(book) for book in BOOKS], first)

    def test_a_book_that_the_asker_changed_is_answered_as_it_is_now(self):
        handed = ["o", "."]
        self.ask_all(handed)
        handed[1] = "oo."
        handed.append("o.o")
        self.assertEqual(self.ask_all(handed), self.ask_all(["o", "oo.", "o.o"]))

    def test_the_module_holds_nothing_that_could_keep(self):
        self.ask_all(["o.", ".o"])
        assert_keeps_nothing(self, books)


if __name__ == "__main__":
    unittest.main()
