import unittest

from freshpage.scripts import fits, rows_of

# Each kind of row once, with what is told of it.
ROWS = [
    ("let x 3", ("let", "x", "3")),
    ("let x y + 3", ("let", "x", "y", "+", "3")),
    ("mark this x 3", ("mark", "this", "x", "3")),
    ('mark #a sign "b" & x', ("mark", "#a", "sign", '"b"', "&", "x")),
    ("unmark target class", ("unmark", "target", "class")),
    ('text #a "b c"', ("text", "#a", '"b c"')),
    ("add this x", ("add", "this", "x")),
    ("cut #a", ("cut", "#a")),
    ("say wide #a", ("say", "wide #a")),
    ("if x < 3", ("if", "x", "<", "3")),
    ("else", ("else",)),
    ("end", ("end",)),
    ("loop 3", ("loop", "3")),
    ("stop", ("stop",)),
    ("prevent", ("prevent",)),
    ("send click #a", ("send", "click", "#a")),
]
FAULT = ("fault",)


class Rows(unittest.TestCase):
    def reads(self, row, *told):
        self.assertEqual(rows_of(row), [tuple(told)], row)

    def is_no_row(self, row):
        self.assertEqual(rows_of(row), [FAULT], row)

    def test_each_kind(self):
        for row, told in ROWS:
            self.reads(row, *told)
            self.assertIs(type(rows_of(row)[0]), tuple)
        self.assertEqual(rows_of("\n".join(row for row, _ in ROWS)), [told for _, told in ROWS])

    def test_a_word_left_out_doubled_or_another_one(self):
        for row, _ in ROWS:
            words = row.split(" ") if '"b c"' not in row else ["text", "#a", '"b c"']
            self.is_no_row(row + " x")
            self.is_no_row("x " + row)
            for at, word in enumerate(words):
                for others in ([], [word, word], ["X"], ["?"], [""]):
                    self.is_no_row(" ".join(words[:at] + others + words[at + 1:]) or "x")

    def test_words_doubled_and_exchanged(self):
        for row in ("let let x 3", "cut cut #a", "cut #a #a", "stop stop", "say x y", "send click click this", "x let 3",
                    "mark x this 3", "unmark class target", "send #a click", "let 3 x", "#a cut", "this", "3", "text x #a"):
            self.is_no_row(row)

    def test_rows_without_signs(self):
        self.assertEqual(rows_of(""), [None])
        self.assertEqual(rows_of("\n \n    \nstop\n"), [None, None, None, ("stop",), None])

    def test_blanks(self):
        for row, told in ROWS:
            self.reads(f"   {row}  ", *told)
            if " " in row:
                self.is_no_row(row.replace(" ", "  ", 1))
        self.is_no_row("stop\tstop")

    def test_names_that_are_none(self):
        for word in ("sign", "wide", "high", "left", "top", "worth", "look"):
            self.is_no_row(f"let {word} 3")
            if word != "sign":
                self.is_no_row(f"let x {word}")
                self.is_no_row(f"say {word} + 3")
            self.reads(f"mark this {word} 3", "mark", "this", word, "3")
            self.reads(f"unmark this {word}", "unmark", "this", word)
            self.reads(f"send {word} this", "send", word, "this")
            self.reads(f"say worth this {word}", "say", f"worth this {word}")
            self.reads(f"say look this {word}", "say", f"look this {word}")
        for word in ("let", "this", "target", "else", "say", "loop", "signs", "wid", "a-b"):
            self.reads(f"let {word} 3", "let", word, "3")
            self.reads(f"say {word}", "say", word)

    def test_words(self):
        for word in ("a", "abcdefghijkl", "a-", "a--b"):
            self.reads(f"let {word} 3", "let", word, "3")
            self.reads(f"cut #{word}", "cut", f"#{word}")
        for word in ("", "abcdefghijklm", "-a", "A", "a1", "a_b", "a.b", "#a", '"a"', "1"):
            self.is_no_row(f"let {word} 3")
            self.is_no_row(f"mark this {word} 3")
            self.is_no_row(f"unmark this {word}")
            self.is_no_row(f"send {word} this")
            self.is_no_row(f"cut #{word}")
            self.is_no_row(f"say wide #{word}")
            self.is_no_row(f"say worth this {word}")
        for who in ("it", "a", "THIS", "thi", "#", "this target", "# a", '"this"', "3"):
            self.is_no_row(f"cut {who}")
            self.is_no_row(f"say top {who}")

    def test_numbers(self):
        for number in ("0", "1", "-1", "9", "123456789", "-123456789", "-9", "100"):
            self.reads(f"say {number}", "say", number)
            self.reads(f"loop {number} - {number}", "loop", number, "-", number)
        for number in ("1234567890", "-1234567890", "-0", "01", "+1", "00", "-01", "--1", "1-", "1.0", "1e1", "0x1", "1_0"):
            self.is_no_row(f"say {number}")
            self.is_no_row(f"say 1 + {number}")
            self.is_no_row(f"say {number} + 1")

    def test_texts(self):
        for text in ('"a"', '""', '" "', '" a  b "', '"a = b"', '"let x 3"', '"<b>&"', '"\'"', '"\\"', '"-1"'):
            self.reads(f"say {text}", "say", text)
            self.reads(f"  say {text} & {text} ", "say", text, "&", text)
            self.reads(f"mark this x {text}", "mark", "this", "x", text)
        for text in ('"', '"a', 'a"', '"a"b"', '"a""b"', '"a"b', 'a"b"', '"a" "b"', "'a'", '"a"" "'):
            self.is_no_row(f"say {text}")
            self.is_no_row(f"say {text} & x")
        for row in ('say "a"x& "b"', 'say x& "b"', 'say "a"x', 'say"a"', 'say "a"& "b"', 'say "a" &"b"', 'say "a"x"b"', 'mark this x"a"'):
            self.is_no_row(row)
        self.is_no_row('"say" x')
        self.is_no_row('send "a" this')
        self.assertEqual(rows_of('say "a\nb"'), [FAULT, FAULT])

    def test_parts_of_several_words(self):
        for part in ("wide this", "high target", "left #a", "top #abcdefghijkl", "worth this class", "look #a color"):
            self.reads(f"say {part}", "say", part)
            for sign in "+-<=&":
                self.reads(f"if {part} {sign} {part}", "if", part, sign, part)
                self.reads(f"let x {part} {sign} 3", "let", "x", part, sign, "3")
                self.reads(f"text #a sign {sign} {part}", "text", "#a", "sign", sign, part)
        for part in ("wide", "wide x", "worth this", "worth this class x", "look color", "look color this", "wide this this",
                     "sign this", "worth  this class"):
            self.is_no_row(f"say {part}")
            self.is_no_row(f"say 1 + {part}")

    def test_signs_between(self):
        for term in ("x +", "+ x", "x + y +", "x + y + z", "x +y", "x+y", "x * y", "x == y", "x > y", "x ! y", "x + + y", "+", "",
                     "x -1", "- 1", '"a" "&" "b"', "x and y"):
            self.is_no_row(f"say {term}")
        self.reads("say x - -1", "say", "x", "-", "-1")
        self.reads("say 1 - 1", "say", "1", "-", "1")

    def test_told_lists_are_new(self):
        told = rows_of("stop\nstop")
        told.clear()
        self.assertEqual(rows_of(code="stop\nstop"), [("stop",), ("stop",)])


class Fits(unittest.TestCase):
    def at_fault(self, code, told):
        self.assertEqual(fits(code), told, code)

    def test_none(self):
        for code in ("", "\n\n", "stop", "if x\nend", "if x\nelse\nend", "loop 3\nend", "if x\nif y\nelse\nend\nelse\nend",
                     "loop 2\nif x\nelse\nend\nend", " if x \n end ", "let x 1 + 2"):
            self.at_fault(code, None)

    def test_not_so_written(self):
        self.at_fault("fault", 0)
        self.at_fault("stop\n\nsay\nsay", 2)
        self.at_fault("if\nend", 0)
        self.at_fault("if x\nelse x\nelse\nend", 1)
        self.at_fault("loop 3 3\nstop\nend", 0)

    def test_else(self):
        self.at_fault("else", 0)
        self.at_fault("if x\nend\nelse", 2)
        self.at_fault("if x\nelse\nelse\nend", 2)
        self.at_fault("if x\nelse\nelse\nelse\nend", 2)
        self.at_fault("loop 3\nelse\nend", 1)
        self.at_fault("if x\nloop 3\nelse\nend\nend", 2)
        self.at_fault("if x\nelse\nif y\nelse\nend\nend", None)
        self.at_fault("if x\nelse\nif y\nend\nelse\nend", 4)

    def test_end(self):
        self.at_fault("end", 0)
        self.at_fault("if x\nend\nend", 2)
        self.at_fault("\nend\nend", 1)

    def test_without_an_end(self):
        self.at_fault("if x", 0)
        self.at_fault("stop\nloop 3\nstop", 1)
        self.at_fault("if x\nif y\nend", 0)
        self.at_fault("if x\nend\nif y\nelse", 2)
        self.at_fault("loop 3\nif x\nelse\nend", 0)

    def test_the_least_row(self):
        self.at_fault("if x\nsay", 0)
        self.at_fault("say\nif x", 0)
        self.at_fault("stop\nif x\nend\nsay\nif y", 3)
        self.at_fault("else\nif x", 0)

    def test_a_row_not_so_written_opens_nothing(self):
        self.at_fault("stop\nif x y\nend", 1)
        self.at_fault("if x\nend x\nend", 1)
        self.at_fault("if x\nloop\nelse\nend", 1)

    def test_within_one_another(self):
        for word in ("if x", "loop 3"):
            for many, told in ((1, None), (11, None), (12, None), (13, 12), (14, 12)):
                self.at_fault("\n".join([word] * many + ["end"] * many), told)
        rows = ["if 1", "loop 1"] * 6
        self.at_fault("\n".join([*rows, "if 1", "else", "end", *["end"] * 12]), 12)
        self.at_fault("\n".join([*rows, "if 1", *["end"] * 12]), 0)
        self.at_fault("\n".join([*rows, "end", "if 1", "end", *["end"] * 11]), None)
        self.at_fault("\n".join(["if 1", "end"] * 20), None)

    def test_by_name(self):
        self.assertEqual(fits(code="else"), 0)


if __name__ == "__main__":
    unittest.main()
