import inspect
import itertools
import re
import unittest

from lampwatch import notes
from lampwatch.errors import NoBook, NoLight, NoNote
from lampwatch.notes import read, shown
from tests.helper import (
    BOOKS,
    WRONG_BOOKS,
    WRONG_LIGHTS,
    all_rows,
    assert_keeps_nothing,
    assert_refused,
    with_each_place_wrong,
)

NOTE = re.compile(r"[o.]{1,12}(/[o.]{1,12}){0,4}")

# Every sign that a text may hold but those of a note.
OTHER_SIGNS = [sign for sign in "\t\n" + "".join(map(chr, range(32, 127))) if sign not in "o./%"]


class TestInterface(unittest.TestCase):
    def test_names_and_arguments(self):
        self.assertEqual(list(inspect.signature(notes.shown).parameters), ["book"])
        self.assertEqual(list(inspect.signature(notes.read).parameters), ["text"])

    def test_arguments_by_name(self):
        self.assertEqual(shown(book=["o.", "oo."]), "o./oo.")
        self.assertEqual(read(text="o./oo."), ["o.", "oo."])

    def test_kinds(self):
        self.assertIs(type(shown(["o"])), str)
        self.assertIs(type(read("o")), list)
        for light in read("o/./oo."):
            self.assertIs(type(light), str)


class TestShown(unittest.TestCase):
    """Point 14, and point 7 for what is handed in."""

    def test_ordinary_books(self):
        self.assertEqual(shown(["o"]), "o")
        self.assertEqual(shown(["o..", "oo."]), "o../oo.")
        self.assertEqual(shown(["o", ".", "o.", ".o", "oo."]), "o/./o./.o/oo.")

    def test_the_rows_are_written_as_they_are(self):
        self.assertEqual(shown(["o.o.", "o.", "o.o."]), "o.o./o./o.o.")
        self.assertEqual(shown(["oooooooooooo"] * 5), "/".join(["o" * 12] * 5))

    def test_lists_of_another_length_are_refused(self):
        for wrong in WRONG_BOOKS:
            assert_refused(self, NoBook, shown, wrong)

    def test_a_text_that_is_no_light_is_refused_in_each_place(self):
        for wrong in WRONG_LIGHTS + ["/", "o/", "o/o"]:
            for book in with_each_place_wrong(wrong):
                assert_refused(self, NoLight, shown, book)

    def test_a_wrong_length_comes_ahead_of_a_wrong_light(self):
        for wrong in WRONG_LIGHTS:
            assert_refused(self, NoBook, shown, [wrong] + ["o"] * 5)
            assert_refused(self, NoBook, shown, ["o"] * 5 + [wrong])


class TestRead(unittest.TestCase):
    """Point 14."""

    def test_ordinary_notes(self):
        self.assertEqual(read("o"), ["o"])
        self.assertEqual(read("o../oo."), ["o..", "oo."])
        self.assertEqual(read("o/./o./.o/oo."), ["o", ".", "o.", ".o", "oo."])
        self.assertEqual(read("o.o./o./o.o."), ["o.o.", "o.", "o.o."])

    def test_every_written_book_is_read_to_the_same_book(self):
        for book in BOOKS:
            self.assertEqual(read(shown(book)), book)
        for row in all_rows(12):
            self.assertEqual(read(shown([row])), [row])
        for size in range(1, 6):
            for book in itertools.product(["o", ".", "o.oo.o..o..."], repeat=size):
                self.assertEqual(read(shown(list(book))), list(book))

    def test_the_longest_note(self):
        text = "/".join(["o.oo.o..o..."] * 5)
        self.assertEqual(len(text), 64)
        self.assertEqual(read(text), ["o.oo.o..o..."] * 5)

    def test_the_empty_text_is_refused(self):
        assert_refused(self, NoNote, read, "")

    def test_strokes_with_no_light_between_are_refused(self):
        for text in ("/", "//", "/o", "o/", "/o/", "o//o", "/o/o", "o/o/", "o/./", "/o././o/o", "o././o/o/", "o//"):
            assert_refused(self, NoNote, read, text)

    def test_six_lights_are_refused(self):
        assert_refused(self, NoNote, read, "o/o/o/o/o/o")
        assert_refused(self, NoNote, read, "o/./o./.o/oo./o..")
        assert_refused(self, NoNote, read, "/".join(["o.oo.o..o..."] * 6))
        assert_refused(self, NoNote, read, "x/o/o/o/o/o")

    def test_a_light_of_thirteen_signs_is_refused_in_each_place(self):
        for book in with_each_place_wrong("o.oo.o..o...o"):
            assert_refused(self, NoNote, read, "/".join(book))

    def test_another_sign_is_refused_anywhere_in_the_text(self):
        for text in ("o", "o../oo.", "o/./o./.o/oo."):
            for sign in OTHER_SIGNS:
                for place in range(len(text) + 1):
                    assert_refused(self, NoNote, read, text[:place] + sign + text[place:])
                    assert_refused(self, NoNote, read, text[:place] + sign + text[place + 1:])

    def test_other_signs_alone_are_refused(self):
        for sign in OTHER_SIGNS:
            assert_refused(self, NoNote, read, sign)
            assert_refused(self, NoNote, read, sign * 200)

    def test_long_texts_are_refused(self):
        for long in (65, 66, 100, 199, 200, 201, 250):
            for piece in ("o", ".", "/", "o/", "o.oo.o..o.../", "/o", "o\n", "o, "):
                assert_refused(self, NoNote, read, (piece * long)[:long])

    def test_every_short_text_of_a_notes_signs(self):
        for size in range(8):
            for signs in itertools.product("o./", repeat=size):
                self.compare("".join(signs))

    def test_every_short_text_with_longer_pieces(self):
        for size in range(1, 7):
            for pieces in itertools.product(["o", "o.oo.o..o...", "/", "x"], repeat=size):
                self.compare("".join(pieces))

    def compare(self, text):
        if NOTE.fullmatch(text):
            self.assertEqual(read(text), re.findall("[o.]+", text), text)
            self.assertEqual(shown(read(text)), text)
        else:
            assert_refused(self, NoNote, read, text)


class TestNothingKept(unittest.TestCase):
    """Point 1."""

    def test_a_book_stays_as_it_was(self):
        for book in BOOKS:
            handed = list(book)
            shown(handed)
            self.assertEqual(handed, book)

    def test_a_refused_book_stays_as_it_was(self):
        for book in ([], ["o."] * 6, ["o.", "x", "oo."]):
            handed = list(book)
            with self.assertRaises(ValueError):
                shown(handed)
            self.assertEqual(handed, book)

    def test_the_same_is_told_again_when_a_told_book_was_changed(self):
        told = read("o../oo.")
        told.append("x")
        told[0] = "changed"
        self.assertEqual(read("o../oo."), ["o..", "oo."])
        self.assertIsNot(read("o../oo."), read("o../oo."))

    def test_a_book_that_the_asker_changed_is_written_as_it_is_now(self):
        handed = ["o", "."]
        shown(handed)
        handed[0] = "oo."
        self.assertEqual(shown(handed), "oo./.")

    def test_the_same_is_told_again_also_behind_refusals(self):
        assert_refused(self, NoNote, read, "o/")
        assert_refused(self, NoBook, shown, [])
        self.assertEqual(read("o/."), ["o", "."])
        self.assertEqual(shown(["o", "."]), "o/.")

    def test_the_module_holds_nothing_that_could_keep(self):
        read(shown(["o", "."]))
        assert_keeps_nothing(self, notes)


if __name__ == "__main__":
    unittest.main()
