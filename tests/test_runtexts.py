"""[B5]: texts of runs and of books."""

import random

from endkeepers.errors import BadText
from endkeepers.runtexts import book_text, read_book, read_run, run_text

from tests.helping import BOOKS, FOLLOWING, NO_STRINGS, QUEUE, UNDOING, WINDOW, WORDS, Case, drawn_run

# Each deed of letters of three kinds, and its line.
DEED_LINES = {
    ("put left", 0): "put left 0", ("put left", 1): "put left 1", ("put left", 2): "put left 2",
    ("put right", 0): "put right 0", ("put right", 1): "put right 1", ("put right", 2): "put right 2",
    ("slide", 0): "slide 0", ("slide", 1): "slide 1", ("slide", 2): "slide 2",
    ("take left",): "take left", ("take right",): "take right",
}
WRONG_DEEDS = (
    "", " ", "0", "put", "put 0", "put left", "put right", "slide", "put left ", "slide ", "take", "take left ",
    " take left", "take  left", "take left 0", "take right 1", "take right ", "takeleft", "take-left", "take_left",
    "Take left", "TAKE LEFT", "take left,", "take left, take right", "take left take right", "left take", "take up",
    "put left 3", "put right 4", "slide 3", "slide 9", "put left 10", "put left 00", "put left 01", "slide 02",
    "put left  0", "put  left 0", " put left 0", "put left 0 ", "put left 0 0", "put left 0 1", "slide 0 1", "slide  0",
    "put left -1", "put left -0", "slide +1", "put left 0.", "put left a", "put left None", "put left True", "slide x",
    "put left\t0", "put\tleft 0", "put left 0\t", "take left\t", "take\u00a0left", "take left\r", "put left\u00a00",
    "put left \u0660", "slide \u00b2", "slide \uff11", "put left " + "0" * 5000, "slide " + "1" * 5000,
    "row", "row 0", "none", "jump", "jump 0", "('take left',)", "put left, 0", "x" * 5000, " " * 5000,
)
WRONG_ROWS = (
    "", " ", "0", "0 1", "rows", "Row", "ROW", "row ", " row", "row  ", "row 0 ", " row 0", "row  0", "row 0  1",
    "row0", "row 01", "row 00", "row 0 00", "row 3", "row 0 3", "row 3 0", "row 10", "row 9", "row 0,1", "row 0, 1",
    "row -1", "row -0", "row +0", "row 0.", "row a", "row None", "row True", "row row", "row 0 row", "row\t0",
    "row 0\t", "row\t", "row\u00a00", "row \u0660", "row \u00b2", "row \uff11", "row 0\r", "row\r", "row (0,)", "none",
    "take left", "put left 0", "row" + " 0" * 41, "row" + " 2" * 42, "row" + " 0" * 5000, "row " + "0" * 5000,
    "row " + "1" * 5000, "row" + " " * 5000, "x" * 5000,
)


class TestRunText(Case):
    def test_example(self):
        self.assertSame(
            run_text((0, 1), (("put left", 0), ("take right",), ("slide", 1))),
            "row 0 1\nput left 0\ntake right\nslide 1",
        )
        self.assertSame(run_text((), ()), "row")

    def test_rows(self):
        self.assertSame(run_text((2,), ()), "row 2")
        self.assertSame(run_text((0, 1, 2, 0), ()), "row 0 1 2 0")
        self.assertSame(run_text((1,) * 40, ()), "row" + " 1" * 40)

    def test_each_deed(self):
        for deed, line in DEED_LINES.items():
            with self.subTest(deed=deed):
                self.assertSame(run_text((), (deed,)), "row\n" + line)
                self.assertSame(run_text((1, 2), (deed, ("take left",), deed)), f"row 1 2\n{line}\ntake left\n{line}")

    def test_200_deeds(self):
        self.assertSame(run_text((0,), (("slide", 2),) * 200), "row 0" + "\nslide 2" * 200)


class TestReadRun(Case):
    def test_example(self):
        self.assertSame(read_run("row 2\ntake left\ntake left"), ((2,), (("take left",), ("take left",))))
        self.assertSame(read_run("row"), ((), ()))
        for text, line in (
            ("row 0 1\n", 1), ("row 0  1", 0), ("row 3\ntake left 0", 0), ("row\nput left 0\ntake left 0", 2),
            ("row" + " 0" * 41, 0), ("row" + "\ntake left" * 201, 201),
        ):
            with self.subTest(text=text[:40]):
                self.assertRaised(BadText, {"line": line}, read_run, text)

    def test_no_strings(self):
        for value in NO_STRINGS + (((), ()), ["row"], ("row",), {"row": 0}, b"row", FOLLOWING):
            with self.subTest(value=value):
                self.assertRaised(BadText, {"line": 0}, read_run, value)

    def test_rows_of_none_one_40_and_41_letters(self):
        for many in (0, 1, 2, 39, 40):
            for letter in (0, 1, 2):
                with self.subTest(many=many, letter=letter):
                    self.assertSame(read_run("row" + f" {letter}" * many), ((letter,) * many, ()))
        for many in (41, 42, 240, 3000):
            with self.subTest(many=many):
                self.assertRaised(BadText, {"line": 0}, read_run, "row" + " 0" * many)
                self.assertRaised(BadText, {"line": 0}, read_run, "row" + " 0" * many + "\njump")

    def test_wrong_rows(self):
        for line in WRONG_ROWS:
            with self.subTest(line=line[:40]):
                for text in (line, line + "\ntake left", line + "\njump", line + "\ntake left" * 201, line + "\n"):
                    self.assertRaised(BadText, {"line": 0}, read_run, text)

    def test_each_deed(self):
        for deed, line in DEED_LINES.items():
            with self.subTest(deed=deed):
                self.assertSame(read_run("row\n" + line), ((), (deed,)))
                self.assertSame(read_run(f"row 2 0\nslide 1\n{line}"), ((2, 0), (("slide", 1), deed)))

    def test_wrong_deeds(self):
        for wrong in WRONG_DEEDS:
            for place in (1, 2, 5, 200):
                lines = ["row 0 1"] + ["take left"] * 200
                lines[place] = wrong
                with self.subTest(wrong=wrong[:40], place=place):
                    self.assertRaised(BadText, {"line": place}, read_run, "\n".join(lines))
                    self.assertRaised(BadText, {"line": place}, read_run, "\n".join(lines[:place + 1]))
                    self.assertRaised(BadText, {"line": place}, read_run, "\n".join(lines[:place] + [wrong] * 7))

    def test_200_deeds_and_201(self):
        for many in (199, 200):
            with self.subTest(many=many):
                self.assertSame(read_run("row" + "\nput left 1" * many), ((), (("put left", 1),) * many))
        for many in (201, 202, 1000):
            for line in ("take left", "slide 1", "jump", "", "row"):
                with self.subTest(many=many, line=line):
                    lines = ["row 1"] + ["take right"] * 200 + [line] * (many - 200)
                    self.assertRaised(BadText, {"line": 201}, read_run, "\n".join(lines))
                    lines[7] = "took right"
                    self.assertRaised(BadText, {"line": 7}, read_run, "\n".join(lines))
        self.assertRaised(BadText, {"line": 201}, read_run, "row" + "\ntake left" * 200 + "\n")

    def test_empty_lines(self):
        for text, line in (
            ("\n", 0), ("\nrow", 0), ("row\n", 1), ("row\n\n", 1), ("row\n\ntake left", 1), ("row\ntake left\n", 2),
            ("row\ntake left\n\ntake left", 2), ("\n" * 20000, 0),
        ):
            with self.subTest(text=text[:20]):
                self.assertRaised(BadText, {"line": line}, read_run, text)

    def test_other_line_ends(self):
        for line_end, line in (("\r\n", 0), ("\n\r", 1), ("\r", 0), ("\x0b", 0), ("\x85", 0), ("\u2028", 0), ("; ", 0)):
            with self.subTest(line_end=line_end):
                self.assertRaised(BadText, {"line": line}, read_run, "row 0" + line_end + "take left")

    def test_reading_leads_back(self):
        draw = random.Random(94)
        deeds = sorted(DEED_LINES)
        texts = {}
        for _ in range(400):
            row = tuple(draw.randrange(3) for _ in range(draw.choice((0, 1, 2, 5, 40))))
            # Deeds that no book allows side by side, and that cannot be done, are read as well.
            run = row, tuple(draw.choice(deeds) for _ in range(draw.choice((0, 1, 2, 3, 50, 200))))
            text = run_text(*run)
            self.assertSame(read_run(text), run)
            self.assertEqual(texts.setdefault(text, run), run)
        for book in BOOKS:
            run = drawn_run(draw, book, 3, 40, 200)
            self.assertSame(read_run(run_text(*run)), run)

    def test_unlike_runs_have_unlike_texts(self):
        runs = [(row, deeds) for row in ((), (0,), (1,), (0, 1)) for deeds in [()] + [(deed,) for deed in DEED_LINES]]
        self.assertEqual(len({run_text(*run) for run in runs}), len(runs))


class TestBookText(Case):
    def test_example(self):
        self.assertSame([book_text(book) for book in ((), UNDOING, WINDOW)], ["none", "put right, take right", "slide"])

    def test_each_book(self):
        for book in BOOKS:
            with self.subTest(book=book):
                self.assertSame(book_text(book), str(list(book))[1:-1].replace("'", "") or "none")
        self.assertSame(
            book_text(("put left", "put right", "take left", "take right")),
            "put left, put right, take left, take right",
        )
        self.assertEqual(len({book_text(book) for book in BOOKS}), 17)


class TestReadBook(Case):
    def test_example(self):
        self.assertSame(read_book("put right, take left"), QUEUE)
        self.assertSame(read_book("none"), ())
        for text in ("take left, put right", "", "put left, slide"):
            with self.subTest(text=text):
                self.assertRaised(BadText, {"line": 0}, read_book, text)

    def test_reading_leads_back(self):
        for book in BOOKS:
            with self.subTest(book=book):
                self.assertSame(read_book(book_text(book)), book)

    def test_no_strings(self):
        for value in NO_STRINGS + BOOKS + (list(QUEUE), ["none"], ("none",), b"none", b"slide", {"none": 0}):
            with self.subTest(value=value):
                self.assertRaised(BadText, {"line": 0}, read_book, value)

    def test_no_texts_of_books(self):
        for text in (
            " ", ",", ", ", "\n", "None", "none ", " none", "none\n", "none, none", "none, slide", "slide, none",
            "nothing", "()", "put right, put left", "take right, take left", "take left, put left",
            "put left, take left, put right", "put left, put left", "slide, slide",
            "take left, take right, take right", "slide, take left", "put right, slide",
            "slide, take left, take right", "put left,put right", "put left , put right", "put left,  put right",
            "put left, put right ", " put left", "put left,", "put left, ", ", put left", "put left\n",
            "put left\nput right", "put left; put right", "put left put right", "put left\tput right",
            "put  left", "Put left", "PUT LEFT", "Slide", "slides", "put", "left", "put left 0", "slide 0", "jump",
            "put left, jump", "('slide',)", "'slide'",
            ", ".join(WORDS), ", ".join(["put left"] * 1000), "x" * 20000, "slide\r", "put left,\u00a0put right",
        ):
            with self.subTest(text=text[:60]):
                self.assertRaised(BadText, {"line": 0}, read_book, text)
