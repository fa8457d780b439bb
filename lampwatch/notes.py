"""Notes: a book written as one text, and read from it."""

from lampwatch.books import check_book
from lampwatch.errors import NoBook, NoLight, NoNote

STROKE = "/"


def shown(book):
    check_book(book)
    return STROKE.join(book)


def read(text):
    book = text.split(STROKE)
    try:
        check_book(book)
    except (NoBook, NoLight):
        raise NoNote("a note is 1 to 5 lights with a stroke between two") from None
    return book
