"""Logs of benches: what was done, as calls and as text."""

from endkeepers.benches import Bench
from endkeepers.bounds import MAX_EDITS
from endkeepers.common import is_name
from endkeepers.errors import BadLog, BadText, KeeperError
from endkeepers.runtexts import deed_line, deeds_by_lines, line_of, read_row
from endkeepers.tellertexts import read_teller, teller_text

# How many items stand behind the word of a call.
BEHIND = {"add": 2, "do": 1, "drop": 1, "load": 1, "redo": 0, "undo": 0}


def log_text(log):
    """Return the text of the log, a line for each call."""
    return "".join([_call_line(call) + "\n" for call in log])


def _call_line(call):
    """Return the line of a call."""
    word = call[0]
    if word == "add":
        return f"add {call[1]} {in_one_line(teller_text(call[2]))}"
    if word == "load":
        return line_of(word, call[1])
    if word == "do":
        return deed_line(call[1])
    return " ".join(call)


def in_one_line(text):
    """Return the text with "; " in place of each line feed."""
    return text.replace("\n", "; ")


def teller_in_one_line(text):
    """Return the teller of which text is the text, with "; " in place of each line feed."""
    return read_teller(text.replace("; ", "\n"))


def read_log(value):
    """Return the log of which the lines of value are the texts; BadText(line) with the first wrong one."""
    if not isinstance(value, str):
        raise BadText(0)
    lines = value.split("\n")
    if lines[-1] == "":
        lines = lines[:-1]
    known = _known_calls()
    calls = []
    for place, line in enumerate(lines):
        if place == 4 * MAX_EDITS:
            raise BadText(place)
        call = known[line] if line in known else _read_call(line)
        if call is None:
            raise BadText(place)
        calls.append(call)
    return tuple(calls)


def _known_calls():
    """Return, as a dict, the calls of those lines of which there are only a few."""
    calls = {line: ("do", deed) for line, deed in deeds_by_lines().items()}
    calls["undo"] = ("undo",)
    calls["redo"] = ("redo",)
    return calls


def _read_call(line):
    """Return the call of a line that adds, drops or loads, or None if it is none."""
    row = read_row(line, "load")
    if row is not None:
        return ("load", row)
    words = line.split(" ")
    if len(words) < 2 or not is_name(words[1]):
        return None
    if words[0] == "drop" and len(words) == 2:
        return ("drop", words[1])
    if words[0] != "add":
        return None
    try:
        return ("add", words[1], teller_in_one_line(" ".join(words[2:])))
    except BadText:
        return None


def bench_behind(book, many, value):
    """Return a new bench on which the calls of value were made; BadLog(place) with the first that cannot be."""
    bench = Bench(book, many)
    if not isinstance(value, tuple):
        raise BadLog(0)
    for place, call in enumerate(value):
        if not _is_built_as_call(call):
            raise BadLog(place)
        try:
            _make(bench, call)
        except KeeperError:
            raise BadLog(place) from None
    return bench


def _is_built_as_call(value):
    """Tell whether value is a tuple of a word and as many items as stand behind it."""
    if not isinstance(value, tuple) or len(value) == 0 or value[0] not in list(BEHIND):
        return False
    return len(value) == 1 + BEHIND[value[0]]


def _make(bench, call):
    """Make the call on the bench."""
    word = call[0]
    if word == "add":
        bench.add(call[1], call[2])
    elif word == "do":
        bench.do(call[1])
    elif word == "drop":
        bench.drop(call[1])
    elif word == "load":
        bench.load(call[1])
    elif word == "undo":
        bench.undo()
    else:
        bench.redo()
