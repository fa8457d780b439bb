import inspect
import math
import unittest

from lampwatch import lights
from lampwatch.errors import NoLight, NoSight, TooLong
from lampwatch.lights import both, parting, seen, shortest, turn
from tests.helper import (
    FAR,
    WRONG_LIGHTS,
    all_rows,
    assert_keeps_nothing,
    assert_refused,
    plain_parting,
    plain_shortest,
    plain_turn,
    walk,
)


def plain_both(one, other):
    span = 2 * len(one) * len(other)
    signs = zip(walk(one, 0, span), walk(other, 0, span))
    return plain_shortest("".join("o" if "o" in pair else "." for pair in signs))


class TestInterface(unittest.TestCase):
    def test_names_and_arguments(self):
        wanted = {
            "seen": ["light", "moment", "long"],
            "shortest": ["light"],
            "turn": ["one", "other"],
            "parting": ["one", "moment", "other", "other_moment"],
            "both": ["one", "other"],
        }
        for name, arguments in wanted.items():
            with self.subTest(name=name):
                self.assertEqual(list(inspect.signature(getattr(lights, name)).parameters), arguments)

    def test_arguments_by_name(self):
        self.assertEqual(seen(light="o..", moment=1, long=4), "..o.")
        self.assertEqual(shortest(light="o.o."), "o.")
        self.assertEqual(turn(one="o..", other="..o"), 1)
        self.assertEqual(parting(one="o.", moment=0, other="oo.", other_moment=1), 4)
        self.assertEqual(both(one="o..", other=".o."), "oo.")

    def test_kinds(self):
        self.assertIs(type(seen("o.", 0, 3)), str)
        self.assertIs(type(seen("o.", 0, 0)), str)
        self.assertIs(type(shortest("oo")), str)
        self.assertIs(type(turn("o.", "o.")), int)
        self.assertIs(type(parting("o.", 0, ".", 0)), int)
        self.assertIs(type(both("o.", ".")), str)


class TestWhatALightIs(unittest.TestCase):
    """Point 2."""

    def test_every_row_of_one_to_twelve_signs_is_a_light(self):
        for row in all_rows(12):
            self.assertEqual(seen(row, 0, len(row)), row)

    def test_first_sign_at_nought_and_the_first_again_behind_the_last(self):
        self.assertEqual([seen("oo.", moment, 1) for moment in range(7)], ["o", "o", ".", "o", "o", ".", "o"])

    def test_the_last_sign_ahead_of_moment_nought_and_so_on_back(self):
        self.assertEqual([seen("oo.", -moment, 1) for moment in range(1, 8)], [".", "o", "o", ".", "o", "o", "."])

    def test_other_texts_are_refused_wherever_a_light_is_handed_in(self):
        for wrong in WRONG_LIGHTS:
            with self.subTest(wrong=wrong):
                assert_refused(self, NoLight, seen, wrong, 0, 1)
                assert_refused(self, NoLight, seen, wrong, -3, 0)
                assert_refused(self, NoLight, shortest, wrong)
                assert_refused(self, NoLight, turn, wrong, "o.")
                assert_refused(self, NoLight, turn, "o.", wrong)
                assert_refused(self, NoLight, turn, wrong, wrong)
                assert_refused(self, NoLight, parting, wrong, 0, "o.", 0)
                assert_refused(self, NoLight, parting, "o.", 0, wrong, 0)
                assert_refused(self, NoLight, parting, wrong, 1, wrong, 1)
                assert_refused(self, NoLight, both, wrong, "o.")
                assert_refused(self, NoLight, both, "o.", wrong)
                assert_refused(self, NoLight, both, wrong, wrong)


class TestSeen(unittest.TestCase):
    """Point 3."""

    def test_ordinary_sights(self):
        self.assertEqual(seen("o..", 0, 7), "o..o..o")
        self.assertEqual(seen("o..", 2, 5), ".o..o")
        self.assertEqual(seen("oo.o", 5, 4), "o.oo")
        self.assertEqual(seen("o", 4, 3), "ooo")
        self.assertEqual(seen(".", 4, 3), "...")

    def test_sights_from_moments_below_nought(self):
        self.assertEqual(seen("oo.", -1, 4), ".oo.")
        self.assertEqual(seen("oo.", -2, 4), "o.oo")
        self.assertEqual(seen("oo.", -4, 5), ".oo.o")

    def test_twelve_signs(self):
        row = "o.oo.o..o..."
        self.assertEqual(seen(row, 0, 12), row)
        self.assertEqual(seen(row, 11, 3), ".o.")
        self.assertEqual(seen(row, -12, 24), row + row)

    def test_nought_signs(self):
        for moment in (-FAR, -1, 0, 1, FAR):
            self.assertEqual(seen("o.", moment, 0), "")

    def test_a_hundred_signs(self):
        self.assertEqual(seen("o.", 0, 100), "o." * 50)
        self.assertEqual(seen("oo.", 2, 100), ".oo" * 33 + ".")
        self.assertEqual(len(seen("o..........o", -7, 100)), 100)

    def test_moments_far_off(self):
        # 10 ** 20 leaves 1 over when divided by 3, and by 11 too.
        self.assertEqual(seen("oo.", FAR, 4), "o.oo")
        self.assertEqual(seen("oo.", -FAR, 4), ".oo.")
        self.assertEqual(seen("o..........", FAR, 11), "..........o")
        self.assertEqual(seen("o..........", -FAR, 11), ".o.........")
        self.assertEqual(seen("oo.", FAR + 2, 4), "oo.o")

    def test_sights_as_stepping_tells_them(self):
        for row in all_rows(5) + ["o.oo.o..o...", "..........o"]:
            for moment in range(-14, 15):
                for long in (0, 1, 2, 13):
                    self.assertEqual(seen(row, moment, long), walk(row, moment, long), (row, moment, long))

    def test_another_number_of_signs_is_refused(self):
        for long in (-1, -2, -100, 101, 102, 1000, FAR, -FAR):
            for row in ("o", "o.", "o.oo.o..o..."):
                assert_refused(self, NoSight, seen, row, 0, long)
                assert_refused(self, NoSight, seen, row, -5, long)

    def test_a_wrong_light_comes_ahead_of_a_wrong_number_of_signs(self):
        for wrong in WRONG_LIGHTS:
            for long in (-1, 101):
                assert_refused(self, NoLight, seen, wrong, 0, long)


class TestShortest(unittest.TestCase):
    """Point 4."""

    def test_one_piece_over_and_over(self):
        self.assertEqual(shortest("o.o.o."), "o.")
        self.assertEqual(shortest("oo.oo."), "oo.")
        self.assertEqual(shortest(".oo.oo.oo.oo"), ".oo")
        self.assertEqual(shortest("o..o.oo..o.o"), "o..o.o")
        self.assertEqual(shortest("oooooooooooo"), "o")
        self.assertEqual(shortest("..........."), ".")

    def test_rows_that_are_the_shortest_already(self):
        for row in ("o", ".", "o.", "oo.", "o.o", "o.o.o", "oo.oo", "o..........", "o.o.o.o.o.oo", "ooooooooooo."):
            self.assertEqual(shortest(row), row)

    def test_a_piece_that_does_not_come_out_even_is_not_enough(self):
        self.assertEqual(shortest("o.oo.oo"), "o.oo.oo")
        self.assertEqual(shortest("oo.oo.oo"), "oo.oo.oo")

    def test_as_the_sights_tell_it_for_every_light(self):
        for row in all_rows(12):
            told = shortest(row)
            self.assertEqual(len(row) % len(told), 0, row)
            self.assertEqual(told, plain_shortest(row + row), row)


class TestTurn(unittest.TestCase):
    """Point 5."""

    def test_ordinary_turns(self):
        self.assertEqual(turn("o..", "o.."), 0)
        self.assertEqual(turn("o..", "..o"), 1)
        self.assertEqual(turn("o..", ".o."), 2)
        self.assertEqual(turn("..o", "o.."), 2)
        self.assertEqual(turn(".o", "o."), 1)
        self.assertEqual(turn("oo.o...", "...oo.o"), 4)

    def test_the_same_light_twice(self):
        for row in all_rows(6) + ["o.oo.o..o..."]:
            self.assertEqual(turn(row, row), 0)

    def test_a_light_and_itself_over_and_over(self):
        self.assertEqual(turn("oo.", "oo.oo."), 0)
        self.assertEqual(turn("oo.oo.", "oo."), 0)
        self.assertEqual(turn("oo.oo.", "o.oo.oo.o"), 1)
        self.assertEqual(turn("o", "oooooooooooo"), 0)
        self.assertEqual(turn("............", "..........."), 0)

    def test_the_least_moment_where_the_row_is_one_piece_over_and_over(self):
        self.assertEqual(turn("o.o.o.", ".o.o.o"), 1)
        self.assertEqual(turn("o..o..o..o..", ".o..o..o."), 2)

    def test_a_light_of_twelve_signs_and_itself_turned(self):
        row = "o.oo.o..o..."
        for moment in range(12):
            self.assertEqual(turn(row, row[moment:] + row[:moment]), moment)

    def test_no_turn(self):
        self.assertIsNone(turn("o", "."))
        self.assertIsNone(turn("o", "o."))
        self.assertIsNone(turn("o.", "o"))
        self.assertIsNone(turn("o..", "oo."))
        self.assertIsNone(turn("o.", "o.."))
        self.assertIsNone(turn("oo.o..", "oo..o."))
        self.assertIsNone(turn("o..........", "o..........."))

    def test_as_the_sights_tell_it(self):
        rows = all_rows(4) + ["o.o.o.", ".o.oo.", "oo.o..", "o.oo.oo.o", "..........o.", "o..o..o..o.."]
        for one in rows:
            for other in rows:
                self.assertEqual(turn(one, other), plain_turn(one, other), (one, other))

    def test_there_is_one_just_where_the_shortest_rows_are_turns_of_one_another(self):
        rows = all_rows(6)
        for one in rows:
            row = shortest(one)
            turns = [row[place:] + row[:place] for place in range(len(row))]
            for other in rows:
                self.assertEqual(turn(one, other) is not None, shortest(other) in turns, (one, other))


class TestParting(unittest.TestCase):
    """Points 5 and 6."""

    def test_ordinary_partings(self):
        self.assertEqual(parting("o", 0, ".", 0), 1)
        self.assertEqual(parting("o.", 0, "o..", 0), 3)
        self.assertEqual(parting("o.", 0, "o.", 1), 1)
        self.assertEqual(parting("oo.", 0, "oo.", 1), 2)
        self.assertEqual(parting("oo.", 0, "o.", 1), 1)
        self.assertEqual(parting("oo.", 1, "o.", 0), 4)

    def test_each_moment_belongs_to_its_own_light(self):
        self.assertEqual(parting("o...", 1, "...o..", 0), 8)
        self.assertEqual(parting("o...", 0, "...o..", 1), 1)
        self.assertEqual(parting("...o..", 0, "o...", 1), 8)

    def test_looking_alike_for_ever(self):
        self.assertIsNone(parting("o.", 0, "o.", 0))
        self.assertIsNone(parting("o.", 0, "o.", 2))
        self.assertIsNone(parting("o.", 1, ".o", 0))
        self.assertIsNone(parting("oo.", 0, "oo.oo.", 3))
        self.assertIsNone(parting("oo.", 2, ".oo.oo.oo", -3))
        self.assertIsNone(parting("o", 5, "oooooooooooo", -7))
        self.assertIsNone(parting("...........", 3, "............", 4))

    def test_a_light_and_itself(self):
        row = "o.oo.o..o..."
        for moment in range(-24, 25):
            self.assertEqual(parting(row, moment, row, 0) is None, moment % 12 == 0, moment)

    def test_a_light_and_itself_turned(self):
        row = "o.oo.o..o..."
        for moment in range(12):
            self.assertIsNone(parting(row, moment, row[moment:] + row[:moment], 0))

    def test_moments_below_nought(self):
        self.assertEqual(parting("oo.", -1, "o.", -1), 3)
        self.assertEqual(parting("oo.", -2, "o.", -2), 4)
        self.assertEqual(parting("oo.", -3, "o.", -2), 2)

    def test_moments_far_off(self):
        self.assertIsNone(parting("oo.", FAR, "oo.", 1))
        self.assertIsNone(parting("oo.", FAR, "oo.", -FAR - 1))
        self.assertEqual(parting("oo.", FAR, "oo.", -FAR), 1)
        self.assertEqual(parting("oo.", -FAR, "oo.", 0), 1)
        self.assertEqual(parting("o..........", FAR, "...........o", -FAR), 4)

    def test_as_large_as_the_bound(self):
        # 11 and 12 have no common divisor but 1: 11 + 12 - 1.
        self.assertEqual(parting("..........o", 0, "..........o.", 0), 22)
        self.assertEqual(parting("..........o.", 0, "..........o", 0), 22)
        self.assertEqual(parting("oooooooooo.", 0, "oooooooooo.o", 0), 22)
        self.assertEqual(parting("..........o", FAR * 11, "..........o.", -FAR * 12), 22)
        # Measures that share a divisor: 4 + 6 - 2; one measure twice: 12 + 12 - 12;
        # the measure 1: 12 + 1 - 1, and 1 + 1 - 1.
        self.assertEqual(parting("...o", 0, "...o..", 0), 8)
        self.assertEqual(parting("o.o.oo......", 0, "o.o.oo.....o", 0), 12)
        self.assertEqual(parting("...........o", 0, "............", 0), 12)
        self.assertEqual(parting("o", 0, ".", 0), 1)

    def test_as_the_sights_tell_it_and_within_the_bound(self):
        rows = all_rows(4) + ["..o..o", "o.oo.", "oo.oo.o"]
        for one in rows:
            for other in rows:
                measures = len(shortest(one)), len(shortest(other))
                most = sum(measures) - math.gcd(*measures)
                for moment in (-3, 0, 1):
                    for other_moment in (-1, 0, 2):
                        handed = (one, moment, other, other_moment)
                        told = parting(*handed)
                        self.assertEqual(told, plain_parting(*handed), handed)
                        self.assertTrue(told is None or 1 <= told <= most, handed)

    def test_long_rows_as_the_sights_tell_it(self):
        rows = ["..........o", "..........o.", ".....o.....o", "o.o.o.o.o.", "o.o.o.o.o.o", ".........o"]
        for one in rows:
            for other in rows:
                for moment in range(12):
                    handed = (one, moment, other, 0)
                    self.assertEqual(parting(*handed), plain_parting(*handed), handed)


class TestBoth(unittest.TestCase):
    """Point 13."""

    def test_ordinary_pairs(self):
        self.assertEqual(both("o..", ".o."), "oo.")
        self.assertEqual(both("o..", "o.."), "o..")
        self.assertEqual(both("o.", "..o."), "o.")
        self.assertEqual(both("o.", "o.."), "o.ooo.")
        self.assertEqual(both(".", "oo."), "oo.")
        self.assertEqual(both(".", "."), ".")

    def test_told_by_the_shortest_row(self):
        self.assertEqual(both("o.", ".o"), "o")
        self.assertEqual(both("o...", "..o."), "o.")
        self.assertEqual(both("oo.oo.", "oo.oo.oo."), "oo.")
        self.assertEqual(both("............", "..........."), ".")
        self.assertEqual(both("ooooooooooo", "o..o.o......"), "o")
        self.assertEqual(both("o.o.o.o.o.o.", ".o.o.o.o.o"), "o")

    def test_short_though_the_two_come_round_together_late(self):
        # Measures 8 and 12, which come round together after 24 moments alone.
        self.assertEqual(both("..o.o.o.", "o.o.o...o..."), "o.")

    def test_just_twelve_signs(self):
        self.assertEqual(both("o..", "o..."), "o..oo.o.oo..")
        self.assertEqual(both("o...........", "."), "o...........")
        self.assertEqual(both("o.....", "...o........"), "o..o..o.....")

    def test_more_than_twelve_signs_is_refused(self):
        for one, other in (
            ("o.", "o......"),
            ("o......", "o."),
            ("o..", "o...."),
            ("o..........", "o..........."),
            ("o.......", "o..........."),
            ("o........", "o....."),
        ):
            with self.subTest(one=one, other=other):
                self.assertGreater(len(plain_both(one, other)), 12)
                assert_refused(self, TooLong, both, one, other)

    def test_just_more_than_twelve_signs_is_refused(self):
        # 2 and 7 come round together after 14 moments, the fewest above 12 for lights of these lengths.
        self.assertEqual(len(plain_both("o.", "o......")), 14)
        assert_refused(self, TooLong, both, "o.", "o......")

    def test_a_wrong_light_comes_ahead_of_too_long(self):
        assert_refused(self, NoLight, both, "o............", "o..")
        assert_refused(self, NoLight, both, "o..", "o............")
        assert_refused(self, NoLight, both, "o.x....", "o..")
        assert_refused(self, NoLight, both, "o......", "o.x")

    def test_as_the_moments_tell_it(self):
        rows = all_rows(5) + ["o.o.o.o.o.o.", "..o.o.o.", "o.o.o...o...", "o........"]
        for one in rows:
            for other in rows:
                wanted = plain_both(one, other)
                if len(wanted) > 12:
                    assert_refused(self, TooLong, both, one, other)
                else:
                    self.assertEqual(both(one, other), wanted, (one, other))


class TestNothingKept(unittest.TestCase):
    """Point 1."""

    def ask_all(self):
        rows = ["o", ".", "o.", "oo.", "o.o.", "o.oo.o..o..."]
        told = []
        for one in rows:
            told.append((shortest(one), seen(one, -5, 30)))
            for other in rows:
                told.append((turn(one, other), parting(one, 1, other, -2), both(one, other)))
        return told

    def test_the_same_is_told_again_also_behind_refusals(self):
        first = self.ask_all()
        assert_refused(self, NoLight, shortest, "x")
        assert_refused(self, NoSight, seen, "o.", 0, 101)
        assert_refused(self, TooLong, both, "o......", "o.")
        self.assertEqual(self.ask_all(), first)

    def test_the_module_holds_nothing_that_could_keep(self):
        self.ask_all()
        assert_keeps_nothing(self, lights)


if __name__ == "__main__":
    unittest.main()
