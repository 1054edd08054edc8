"""[A8]: texts of tellers; and what [A10] says of them."""

from endkeepers.errors import BadText
from endkeepers.tellers import least, teller_error
from endkeepers.tellertexts import read_teller, teller_text

from tests.helping import BEGINS, FIFTH, FOLLOWING, HOLDING, NO_STRINGS, Case, chain, drawn_tellers, ring

# Lines that are wrong as any line of a text of two kinds and at least four lines.
WRONG_LINES = (
    "", " ", "tells", "tells 0", " tells 0", "0 tells 0", "0 0 0 tells 0", "0 0 0 0 tells 0", "0 0", "0 0 0",
    "0 0 tells", "0 0 tells ", "0 0 tells 0 ", " 0 0 tells 0", "0  0 tells 0", "0 0  tells 0", "0 0 tells  0",
    "0 0 tells 0 0", "0 0 tells tells 0", "0 tells 0 tells 0", "0 0 tell 0", "0 0 Tells 0", "0 0 TELLS 0",
    "0 0 tells0", "0 0tells 0", "00 tells 0", "0 0 told 0", "0,0 tells 0", "0, 0 tells 0", "0 0 tells 0; 0 0 tells 0",
    "00 0 tells 0", "0 01 tells 0", "0 0 tells 00", "0 0 tells 07", "0 0 tells 099", "000 0 tells 0",
    "+0 0 tells 0", "0 -0 tells 0", "0 -1 tells 0", "0 0 tells +1", "0 0 tells -1", "0 0 tells -0",
    "0_0 0 tells 0", "0 0 tells 1_0", "0. 0 tells 0", "0 0.0 tells 0", "0 0 tells 1e1", "0x0 0 tells 0",
    "a 0 tells 0", "0 b tells 0", "0 0 tells c", "0 None tells 0", "0 True tells 0", "(0, 0) tells 0",
    "0\t0 tells 0", "0 0\ttells 0", "0 0 tells\t0", "0 0 tells 0\t", "0 0 tells 0\r", "\r0 0 tells 0",
    "0\u00a00 tells 0", "0 0 tells\u00a00", "0 0 tells 0\u2028", "0 0\u2003tells 0",
    "0 0 tells 0\x0b", "0 0 tells 0\x0c",
    "\u0660 0 tells 0", "0 0 tells \u0663", "0 0 tells \u00b2", "0 \uff11 tells 0", "0 0 tells \u00bd",
    "\u2460 0 tells 0",
    "0 0 tells 100", "0 0 tells 101", "0 0 tells 999", "0 0 tells 1000", "0 0 tells " + "9" * 5000,
    "9" * 5000 + " 0 tells 0", "0 " + "0" * 5000 + " tells 0", "0 0 tells " + "0" * 5000, "0 0 tells 1" + "0" * 19000,
    "x" * 20000, " " * 20000, "0 " * 9000,
)


def lines_with(line, place, many=6):
    """A text of right lines of two kinds, but for one."""
    lines = ["0 1 tells 0"] * many
    lines[place] = line
    return "\n".join(lines)


class TestTellerText(Case):
    def test_example(self):
        self.assertSame(teller_text(FOLLOWING), "1 0 tells 0\n1 2 tells 0\n2 2 tells 1")

    def test_texts(self):
        self.assertSame(teller_text((((0,),), (7,))), "0 tells 7")
        self.assertSame(teller_text((((0, 1, 1), (1, 0, 1)), (0, 99))), "0 1 1 tells 0\n1 0 1 tells 99")
        self.assertSame(teller_text(HOLDING), "2 0 tells 0\n1 1 tells 5\n2 2 tells 1\n0 3 tells 12")
        self.assertSame(
            teller_text(ring(24, 23)),
            "\n".join([f"{state} tells 0" for state in range(1, 24)] + ["0 tells 1"]),
        )

    def test_a_teller_is_written_as_it_is(self):
        # Not its least one: it may have states that no row leads to, and states that are alike.
        self.assertNotEqual(teller_text(HOLDING), teller_text(least(HOLDING)))

    def test_each_line(self):
        for teller in drawn_tellers(90, 200, 24, 3, 99):
            lines = teller_text(teller).split("\n")
            self.assertEqual(len(lines), len(teller[0]))
            for line, item, number in zip(lines, *teller):
                head, tail = line.split(" tells ")
                self.assertSame(tail, str(number))
                self.assertSame(head.split(" "), [str(state) for state in item])


class TestReadTeller(Case):
    def test_example(self):
        self.assertSame(read_teller("0 tells 7"), (((0,),), (7,)))
        self.assertSame(read_teller(teller_text(HOLDING)), HOLDING)
        self.assertRaised(BadText, {"line": 0}, read_teller, "1 0 tells 0")
        self.assertRaised(BadText, {"line": 1}, read_teller, "1 0 tells 0\n1 tells 0")
        self.assertRaised(BadText, {"line": 1}, read_teller, "0 tells 0\n")
        self.assertRaised(BadText, {"line": 0}, read_teller, "00 tells 0")
        self.assertRaised(BadText, {"line": 24}, read_teller, "\n".join(["30 tells 0"] * 31))
        self.assertRaised(BadText, {"line": 0}, read_teller, None)

    def test_reading_leads_back(self):
        for teller in (FOLLOWING, HOLDING, BEGINS, FIFTH, ring(24, 5, 3), chain(24, 2), (((0, 0, 0),), (99,))):
            self.assertSame(read_teller(teller_text(teller)), teller)
        for teller in drawn_tellers(91, 400, 24, 3, 99):
            read = read_teller(teller_text(teller))
            self.assertSame(read, teller)
            self.assertIsNone(teller_error(read))

    def test_unlike_tellers_have_unlike_texts(self):
        tellers = {repr(teller): teller for teller in drawn_tellers(92, 600, 2, 2, 1)}
        texts = {teller_text(teller) for teller in tellers.values()}
        self.assertGreater(len(tellers), 50)
        self.assertEqual(len(texts), len(tellers))

    def test_no_strings(self):
        for value in NO_STRINGS + (FOLLOWING, list(FOLLOWING), ["0 tells 7"], ("0 tells 7",), b"0 tells 7"):
            with self.subTest(value=value):
                self.assertRaised(BadText, {"line": 0}, read_teller, value)

    def test_the_wrong_line(self):
        for line in WRONG_LINES:
            for place in range(6):
                wanted = place
                if place == 0 and line in ("0 tells 0", "0 0 0 tells 0"):
                    # As the line 0 it is right, and it is the next one that has not as many.
                    wanted = 1
                with self.subTest(line=line[:40], place=place):
                    self.assertRaised(BadText, {"line": wanted}, read_teller, lines_with(line, place))

    def test_the_first_wrong_line_counts(self):
        lines = ["0 1 tells 0"] * 6
        lines[2], lines[3], lines[5] = "0 1 tells 00", "", "0 6 tells 0"
        self.assertRaised(BadText, {"line": 2}, read_teller, "\n".join(lines))
        lines[2] = "0 1 tells 0"
        self.assertRaised(BadText, {"line": 3}, read_teller, "\n".join(lines))
        lines[3] = "0 1 tells 0"
        self.assertRaised(BadText, {"line": 5}, read_teller, "\n".join(lines))
        lines[5] = "0 5 tells 0"
        self.assertSame(read_teller("\n".join(lines)), (((0, 1),) * 5 + ((0, 5),), (0,) * 6))

    def test_empty_lines(self):
        for text in ("", "\n", "\n0 tells 0", "\n\n\n", "\n" * 20000, " "):
            with self.subTest(text=text[:20]):
                self.assertRaised(BadText, {"line": 0}, read_teller, text)
        self.assertRaised(BadText, {"line": 1}, read_teller, "0 tells 0\n\n0 tells 0")
        self.assertRaised(BadText, {"line": 3}, read_teller, teller_text(FOLLOWING) + "\n")
        self.assertRaised(BadText, {"line": 24}, read_teller, teller_text(ring(24, 0)) + "\n")

    def test_other_line_ends(self):
        for line_end in ("\r\n", "\n\r"):
            with self.subTest(line_end=line_end):
                wrong = 0 if line_end == "\r\n" else 1
                self.assertRaised(BadText, {"line": wrong}, read_teller, "0 tells 0" + line_end + "0 tells 0")
        for line_end in ("\r", "\x0b", "\x0c", "\x1c", "\x85", "\u2028", "; "):
            with self.subTest(line_end=line_end):
                self.assertRaised(BadText, {"line": 0}, read_teller, "0 tells 0" + line_end + "0 tells 0")

    def test_numbers_of_kinds(self):
        for many in range(7):
            line = " ".join(["0"] * many + ["tells 0"])
            with self.subTest(many=many):
                for text in (line, line + "\n" + line):
                    if 1 <= many <= 3:
                        lines = text.count("\n") + 1
                        self.assertSame(read_teller(text), (((0,) * many,) * lines, (0,) * lines))
                    else:
                        self.assertRaised(BadText, {"line": 0}, read_teller, text)
        self.assertRaised(BadText, {"line": 0}, read_teller, "tells 0")
        for one in (1, 2, 3):
            for other in range(6):
                lines = [" ".join(["0"] * many + ["tells 0"]) for many in (one, one, other)]
                with self.subTest(one=one, other=other):
                    if one == other:
                        self.assertSame(read_teller("\n".join(lines)), (((0,) * one,) * 3, (0,) * 3))
                    else:
                        self.assertRaised(BadText, {"line": 2}, read_teller, "\n".join(lines))

    def test_states_are_below_the_number_of_lines(self):
        for many in range(1, 25):
            with self.subTest(many=many):
                for place in {0, many // 2, many - 1}:
                    lines = ["0 0 tells 0"] * many
                    lines[place] = f"0 {many - 1} tells 0"
                    self.assertSame(read_teller("\n".join(lines))[0][place], (0, many - 1))
                    for state in (many, many + 1, many + 10, 100 * many, 10 ** 50):
                        for line in (f"0 {state} tells 0", f"{state} 0 tells 0"):
                            lines[place] = line
                            self.assertRaised(BadText, {"line": place}, read_teller, "\n".join(lines))

    def test_numbers_told(self):
        for number in (0, 1, 9, 10, 98, 99):
            with self.subTest(number=number):
                self.assertSame(read_teller(f"0 tells 0\n0 tells {number}"), (((0,), (0,)), (0, number)))
        for number in (100, 101, 110, 990, 999, 10 ** 10, 10 ** 400, -1):
            with self.subTest(number=number):
                self.assertRaised(BadText, {"line": 1}, read_teller, f"0 tells 0\n0 tells {number}")
                self.assertRaised(BadText, {"line": 0}, read_teller, f"0 tells {number}\n0 tells 0")

    def test_24_lines_and_more(self):
        self.assertSame(read_teller("\n".join(["23 tells 0"] * 24)), (((23,),) * 24, (0,) * 24))
        self.assertRaised(BadText, {"line": 0}, read_teller, "\n".join(["24 tells 0"] * 24))
        self.assertRaised(BadText, {"line": 23}, read_teller, "\n".join(["23 tells 0"] * 23 + ["24 tells 0"]))
        for many in (25, 26, 100, 1000):
            with self.subTest(many=many):
                for state in (0, 24, many - 1):
                    lines = [f"{state} tells 0"] * many
                    self.assertRaised(BadText, {"line": 24}, read_teller, "\n".join(lines))
                    for wrong in ("", "x", f"{many} tells 0", "0 tells 100"):
                        for place in (0, 1, 22, 23):
                            self.assertRaised(
                                BadText, {"line": place}, read_teller,
                                "\n".join(lines[:place] + [wrong] + lines[place + 1:]),
                            )
                        # The line 24 is wrong, whatever it is.
                        for text in ("\n".join(lines[:24] + [wrong] + lines[25:]), "\n".join(lines[:-1] + [wrong])):
                            self.assertRaised(BadText, {"line": 24}, read_teller, text)
