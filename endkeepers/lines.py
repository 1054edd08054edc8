"""Lines that are said to a shell: what they tell, as words and values."""

from endkeepers.common import read_number

# What stands behind the word, or the two words, with which a line begins.
FORMS = {
    "add": ("name", "text"),
    "bench": ("figure", "text"),
    "bits": ("name", "number"),
    "book": (),
    "books": ("name", "figure"),
    "drop": ("name",),
    "grade": ("name",),
    "joint": (),
    "known": ("name",),
    "like": ("name",),
    "load": ("letters",),
    "most": ("name",),
    "names": (),
    "need": ("name", "number"),
    "needs": (),
    "open": (),
    "parts": ("name", "letters"),
    "put left": ("figure",),
    "put right": ("figure",),
    "redo": (),
    "row": (),
    "rule": ("name",),
    "run": (),
    "same": ("name", "name"),
    "slide": ("figure",),
    "take left": (),
    "take right": (),
    "tells": (),
    "text": ("name",),
    "undo": (),
}


def read_line(value):
    """Return the pair of the word of a line and the list of what it tells behind, or None if value is no line."""
    if not isinstance(value, str):
        return None
    words = value.split(" ")
    begin = 2 if words[0] in ("put", "take") else 1
    word = " ".join(words[:begin])
    if word not in FORMS:
        return None
    rest = words[begin:]
    found = []
    for form in FORMS[word]:
        # A text and letters go on to the end of the line.
        taken = len(rest) if form in ("letters", "text") else 1
        part = _read_part(form, rest[:taken])
        if part is None:
            return None
        found.append(part)
        rest = rest[taken:]
    return None if rest else (word, found)


def _read_part(form, words):
    """Return what is told in this form by words, or None if they are not built so."""
    if form == "letters":
        row = tuple([read_number(word, 9) for word in words])
        return None if None in row else row
    # A text may be "", but the blank ahead of it has to be there.
    if not words:
        return None
    if form == "text":
        return " ".join(words)
    if form == "name":
        return words[0] if words[0] else None
    return read_number(words[0], 9 if form == "figure" else 999)
