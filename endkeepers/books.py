"""Books: which deeds are allowed at the ends of a row."""

from endkeepers.errors import Unfit

# All words, ascending.
WORDS = ("put left", "put right", "slide", "take left", "take right")
MIRRORED = {
    "put left": "put right",
    "put right": "put left",
    "take left": "take right",
    "take right": "take left",
}


def book_error(value):
    """Return None if value is a book, otherwise the first thing that is wrong with it."""
    if not isinstance(value, tuple):
        return "form"
    for place, word in enumerate(value):
        if word not in WORDS:
            return ("word", place)
    if not all([value[place - 1] < value[place] for place in range(1, len(value))]):
        return "order"
    if "slide" in value and len(value) > 1:
        return "slide"
    return None


def all_books():
    """Return the ascending tuple of all books."""
    books = [()]
    for word in sorted(MIRRORED):
        books = books + [book + (word,) for book in books]
    return tuple(sorted(books + [("slide",)]))


def is_bare(book):
    """Tell whether the book only takes, at both ends."""
    return book == ("take left", "take right")


def has_take(book):
    """Tell whether the book has a take."""
    return "take left" in book or "take right" in book


def grows_left(book):
    """Tell whether rows grow at the left, by this book, when their histories are written down.

    With one take they grow where letters go, with both takes or none where letters come.
    """
    if ("take left" in book) != ("take right" in book):
        return "take left" in book
    return "put left" in book and "put right" not in book


def mirrored_book(book):
    """Return the book with left and right in each other's place; Unfit() for ("slide",)."""
    if "slide" in book:
        raise Unfit()
    return tuple(sorted([MIRRORED[word] for word in book]))
