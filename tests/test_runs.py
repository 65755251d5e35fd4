"""What scripts ask and do, told by the events that run them."""

import unittest

from freshpage.events import fired
from freshpage.reader import read
from freshpage.rooms import rooms
from freshpage.styles import PROPERTIES, styles
from freshpage.writer import written

PAGE = '<p id="a" on-go="s" class="x y"><b id="b">ab</b> c</p><list id="l"></list>'


class Runs(unittest.TestCase):
    def run_rows(self, *rows, page=PAGE, looks="", node=1, kind="go", sign="", width=20):
        code = "\n".join(rows)
        tree = read(f'{page}<script name="s">{code}</script>')
        return fired(tree, looks, kind, node, sign=sign, width=width)

    def says(self, rows, *told, **more):
        """What is said, and no fault."""
        _, outcome = self.run_rows(*rows, **more)
        self.assertEqual(outcome, [("run", "s", "on", 1), *[("say", text) for text in told]], rows)

    def faults(self, rows, k, *told, **more):
        tree, outcome = self.run_rows(*rows, **more)
        self.assertEqual(outcome, [("run", "s", "on", 1), *[("say", text) for text in told], ("fault", "s", k)], rows)
        return tree

    def makes(self, rows, told):
        """The page's text behind the rows, the script apart."""
        tree, outcome = self.run_rows(*rows)
        self.assertNotIn("fault", [one[0] for one in outcome], (rows, outcome))
        self.assertEqual(written(tree).partition("<script")[0], told)


class Terms(Runs):
    def term(self, term, told, **more):
        self.says(["let one 1", "let two 2", 'let a "a"', 'let b "b"', 'let none ""', f"say {term}"], told, **more)

    def term_faults(self, term, **more):
        self.faults(["let one 1", "let two 2", 'let a "a"', 'let b "b"', 'let none ""', f"say {term}"], 5, **more)

    def test_sums(self):
        for term, told in (("one + two", "3"), ("1 + 2", "3"), ("one - two", "-1"), ("1 - -1", "2"), ("-5 + 5", "0"),
                           ("999999999 + 1", "1000000000"), ("0 - 999999999", "-999999999")):
            self.term(term, told)

    def test_less(self):
        for term, told in (("one < two", "1"), ("two < one", "0"), ("two < two", "0"), ("-1 < 0", "1"), ("9 < 10", "1")):
            self.term(term, told)

    def test_texts_are_no_numbers(self):
        for sign in "+-<":
            for term in (f"a {sign} b", f"a {sign} 1", f"1 {sign} a", f'"1" {sign} "1"', f"1 {sign} none", f"sign {sign} 1",
                         f"worth #a class {sign} 1", f"1 {sign} look #a margin"):
                self.term_faults(term)

    def test_the_same(self):
        for term, told in (("1 = one", "1"), ("one = two", "0"), ('a = "a"', "1"), ("a = b", "0"), ('1 = "1"', "0"),
                           ('"1" = 1', "0"), ('none = ""', "1"), ("none = 0", "0"), ("0 = 0", "1"), ('"a" = "A"', "0"),
                           ('sign = ""', "1")):
            self.term(term, told)

    def test_joined(self):
        for term, told in (("a & b", "ab"), ("one & two", "12"), ("a & one", "a1"), ("one & a", "1a"), ("-5 & 0", "-50"),
                           ("none & none", ""), ('"a " & " b"', "a  b")):
            self.term(term, told)

    def test_what_is_told_may_be_asked(self):
        self.says(["let x 1 + 1", "let x x & x", "say x", "let y x = 22", "say y", 'let z x = "22"', "say z & x"],
                  "22", "0", "122")

    def test_rooms(self):
        for word, told in (("left", "0"), ("top", "0"), ("wide", "20"), ("high", "1")):
            self.term(f"{word} #a", told)
            self.term(f"{word} this", told)
        self.term("wide #b", "2")
        self.term("top #l", "1")
        self.term("high #l", "0")
        self.term("left #b", "3", looks="p { right: 3 }")
        self.term("top #b", "-4", looks="p { down: -4 }")
        self.term("wide #a + wide #b", "9", width=7)

    def test_rooms_of_what_is_not_laid(self):
        for word in ("wide", "high", "left", "top"):
            self.term(f"{word} #a", "0", looks="p { display: none }")
            self.term(f"{word} #c", "0", page=PAGE + '<b id="c"> </b>')
            self.term(f"{word} #c", "0", page=PAGE + '<script id="c">x</script>')

    def test_all_rooms(self):
        looks = "p { pad: 2; margin: 1; right: 5 }"
        tree, _ = self.run_rows(page=PAGE, looks=looks)
        for who, node in (("#a", 1), ("#b", 2), ("#l", 5)):
            for at, word in enumerate(("left", "top", "wide", "high")):
                self.term_room(word, who, str(rooms(tree, looks, width=20)[node][at]), looks)

    def term_room(self, word, who, told, looks):
        self.says([f"say {word} {who}"], told, looks=looks)

    def test_the_page_as_it_stands_then(self):
        self.says(["say wide #b", 'text #b "abcd"', "say wide #b", 'mark #a look "width: 3"', "say high #a", "say wide #a",
                   "cut #b", "say high #a", 'add #l "x"', "say top #l", "say high #l"],
                  "2", "4", "2", "3", "1", "1", "1")

    def test_worths(self):
        self.term("worth #a class", "x y")
        self.term("worth this on-go", "s")
        self.term("worth #b class", "")
        self.term("worth #b id & one", "b1")
        self.says(['mark #b x "new"', "say worth #b x", "unmark #b x", "say worth #b x"], "new", "")

    def test_looks(self):
        looks = "p { color: red; width: 1/2 !; pad: 3 }\nb { pad: inherit }"
        tree, _ = self.run_rows(looks=looks)
        for who, node in (("#a", 1), ("#b", 2), ("#l", 5)):
            for at, name in enumerate(PROPERTIES):
                self.says([f"say look {who} {name}"], styles(tree, looks)[node][at], looks=looks)
        self.says(['mark #b look "color: blue"', "say look #b color"], "blue", looks=looks)
        self.says(["say look #b pad = 3", 'say look #b pad = "3"'], "0", "1", looks=looks)
        self.says(["say look #c display"], "none", page=PAGE + '<script id="c">x</script>')

    def test_no_such_property(self):
        for name in ("colour", "a", "text-align", "height"):
            self.term_faults(f"look #a {name}")

    def test_sign(self):
        for sign in ("", "a", " ", "\n", "<", "5"):
            self.says(["say sign", 'say "x" & sign'], sign, f"x{sign}", sign=sign)

    def test_who(self):
        self.says(["say worth #a id", "say worth this id", "say worth target id"], "a", "a", "b", node=2)
        self.says(["say worth #two class"], "first", page='<p on-go="s"></p><b id="two" class="first"></b><b id="two">')
        self.term_faults("wide #none")
        self.term_faults("worth #none x")
        self.term_faults("look #none color")

    def test_the_seven_words_and_other_names(self):
        self.says(["let this 3", "let target 4", "say this + target", "let say 5", "say say"], "7", "5")

    def test_a_name_not_let(self):
        self.term_faults("three")
        self.term_faults("1 + three")
        self.term_faults("three & a")
        self.faults(["let x x"], 0)

    def test_names_are_of_one_run(self):
        page = '<p on-go="s" cap-go="s" id="a"></p>'
        _, outcome = self.run_rows('if worth #a n = "1"', "say x", "end", "let x 5", 'mark #a n "1"', page=page)
        self.assertEqual(outcome, [("run", "s", "cap", 1), ("run", "s", "on", 1), ("fault", "s", 1)])

    def test_a_name_let_again(self):
        self.says(["let x 1", "let y x", "let x 2", 'say x & y', 'let x "a"', "say x"], "21", "a")


class Figures(Runs):
    # Doubles 999999999 until it has so many figures.
    GROW = ["let x 999999999", "loop 20", "let x x + x", "end"]

    def test_twenty_and_one_more(self):
        least = 999999999 * 2 ** 20
        more = [*self.GROW, "loop 16", "let x x + x", "end"]
        self.assertEqual(len(str(least * 2 ** 16)), 20)
        self.says([*more, "say x"], str(least * 2 ** 16))
        self.says([*more, "let x 0 - x", "say x"], str(-least * 2 ** 16))
        self.faults([*more, "let x x + x"], 7)
        self.faults([*more, "say x + x"], 7)
        self.faults([*more, "let y 0 - x", "let x y - x"], 8)
        self.faults([*more, "if x + x", "end"], 7)

    def test_at_the_very_bound(self):
        rows = ["let x 0", "loop 20", "let y x", "loop 9", "let x x + y", "end", "let x x + 9", "end"]
        self.says([*rows, "say x"], "9" * 20)
        self.faults([*rows, "say x + 1"], 8)
        self.faults([*rows, "let z 0 - x", "say z", "say z - 1"], 10, "-" + "9" * 20)
        self.says([*rows, "say x - 1"], "9" * 19 + "8")

    def test_four_thousand_signs_and_one_more(self):
        grow = ['let x "0123456789"', 'let y ""', "loop 20", "let y y & x", "end", 'let z ""', "loop 20", "let z z & y", "end"]
        told = "0123456789" * 400
        self.says([*grow, "say z"], told)
        self.faults([*grow, 'say z & "a"'], 9)
        self.faults([*grow, "say z & 1"], 9)
        self.faults([*grow, 'let z "a" & z'], 9)
        self.says([*grow, 'say z & ""', "say z = z"], told, "1")
        self.faults([*grow, "text #l z"], 9)


class Rows(Runs):
    def test_deeds(self):
        self.makes(['mark #b x 1 + 2'], PAGE.replace('id="b"', 'id="b" x="3"'))
        self.makes(['mark #b id "c"', "mark #c x -5"], PAGE.replace('id="b"', 'id="c" x="-5"'))
        self.makes(["unmark #a class"], PAGE.replace(' class="x y"', ""))
        self.makes(["unmark #a none"], PAGE)
        self.makes(["text #b 5"], PAGE.replace("ab", "5"))
        self.makes(['text #b ""'], PAGE.replace("ab", ""))
        self.makes(['text #b "<i>"'], PAGE.replace("ab", "&lt;i>"))
        self.makes(['add #b "<i>c"'], PAGE.replace("ab", "ab<i>c</i>"))
        self.makes(['add #l "<i>c</i>d"', "add #l 5 & 6", 'add #l "e"'], PAGE.replace("</list>", "<i>c</i>d56e</list>"))
        self.makes(["cut #b"], PAGE.replace('<b id="b">ab</b>', ""))
        self.makes(["cut this"], '<list id="l"></list>')
        self.makes(["cut #l", 'add #a "!"'], PAGE.replace(' c</p><list id="l"></list>', " c!</p>"))

    def test_refusals(self):
        page = '<p id="a" on-go="s"></p><script id="c">x</script>'
        self.faults(['add #c "x"'], 0, page=page)
        self.faults(['text #c "</scr" & "ipt>"', "say 1"], 0, page=page)
        self.says(['text #c "y"', 'say 1'], "1", page=page)
        self.faults(['say 1', 'add #a "' + "<b>" * 20 + '"', "say 2"], 1, "1", page=page)
        self.faults(['add #a "' + "<b></b>" * 118 + '"'], 0, page=page)

    def test_if(self):
        for term, told in (("1", "then"), ("0", "else"), ('""', "else"), ('"0"', "then"), ("-1", "then"), ('" "', "then"),
                           ("sign", "else"), ("1 = 2", "else"), ("1 = 1", "then"), ("1 - 1", "else"), ("worth #a none", "else"),
                           ("worth #a id", "then"), ("wide #none", None)):
            rows = [f"if {term}", 'say "then"', "else", 'say "else"', "end", 'say "behind"']
            if told is None:
                self.faults(rows, 0)
            else:
                self.says(rows, told, "behind")

    def test_if_without_else(self):
        self.says(["if 0", "say 1", "end", "say 2"], "2")
        self.says(["if 1", "say 1", "end", "say 2"], "1", "2")
        self.says(["if 1", "end", "if 0", "else", "say 3", "end"], "3")
        self.says(["if 0", "if 1", "say 1", "else", "say 2", "end", "else", "say 3", "end"], "3")
        self.says(["if 1", "if 0", "say 1", "else", "say 2", "end", "else", "say 3", "end"], "2")

    def test_loops(self):
        for many in (0, 1, 2, 19, 20):
            self.says([f"loop {many}", "say 1", "end", "say 2"], *["1"] * many, "2")
        for many in ("21", "-1", "999999999", '"3"', '""', "sign", "worth #a id", "20 + 1"):
            self.faults(["say 0", f"loop {many}", "say 1", "end", "say 2"], 1, "0")

    def test_the_term_of_a_loop_is_told_once(self):
        self.says(["let x 2", "loop x", "let x x + 1", "say x", "end"], "3", "4")
        self.says(["loop wide #b", 'text #b "abcdef"', "say 1", "end"], "1", "1")

    def test_loops_within_one_another(self):
        self.says(["let x 0", "loop 3", "loop 4", "let x x + 1", "end", "say x", "end"], "4", "8", "12")
        self.says(["loop 2", "loop 0", "say 1", "end", "say 2", "end"], "2", "2")
        self.says(["let x 0", "loop 3", "let x x + 1", "if x = 2", "say x", "else", 'say "no"', "end", "end"], "no", "2", "no")

    def test_to_twelve_and_thirteen(self):
        for word in ("if 1", "loop 1"):
            self.says([word] * 12 + ["say 1"] + ["end"] * 12, "1")
            self.faults(["say 0"] + [word] * 13 + ["say 1"] + ["end"] * 13, 13)
        self.faults(["if 0"] + ["loop 0"] * 12 + ["end"] * 13, 12)

    def test_rows_of_no_signs(self):
        self.says(["", "   ", "say 1", ""], "1")
        self.says([""])
        self.says(["if 1", "", "else", "", "end", "", "say 1"], "1")

    def test_at_a_fault_by_itself_nothing_is_done(self):
        for rows, k in ((["say 1", "say"], 1), (["say 1", "if 1"], 1), (["say 1", "end"], 1), (["say 1", "else"], 1),
                        (["say 1", "loop 2", "else", "end"], 2), (["say 1", 'mark #a x 1', "if 1", "else", "else", "end"], 4),
                        (["if 0", "sai", "end"], 1), (["say x", "nothing"], 1), (["stop", "prevent", "say"], 2)):
            tree = self.faults(rows, k)
            self.assertEqual(written(tree).partition("<script")[0], PAGE)

    def test_what_was_done_ahead_of_a_fault_stays(self):
        for fault in ("say none", "loop 21\nend", 'say 1 + "a"', "cut #none", 'add #s "x"', "say look #a none", "send go #none",
                      "loop sign\nend", "mark #none x 1", "unmark #none x", "text #none 1", "let x wide #none"):
            page = PAGE + '<script id="s"></script>'
            tree = self.faults(["say 1", 'text #b "new"', *fault.split("\n"), "say 2", "cut #b"], 2, "1", page=page)
            self.assertEqual(written(tree).partition("<script")[0], PAGE.replace("ab", "new"))

    def test_a_fault_in_a_loop(self):
        self.faults(["let x 3", "loop 5", "let x x - 1", "say x", "if x = 1", "cut #none", "end", "end"], 5, "2", "1")

    def test_the_rows_are_those_at_its_begin(self):
        page = '<p id="a" on-go="s"></p>'
        rows = ['text #me "say 5"', "say 1", "say 2"]
        tree = read(f'{page}<script name="s" id="me">' + "\n".join(rows) + "</script>")
        told, outcome = fired(tree, "", "go", 1)
        self.assertEqual(outcome, [("run", "s", "on", 1), ("say", "1"), ("say", "2")])
        self.assertEqual(fired(told, "", "go", 1)[1], [("run", "s", "on", 1), ("say", "5")])
        tree = read(f'{page}<script name="s" id="me">cut #me\nsay 1</script>')
        self.assertEqual(fired(tree, "", "go", 1), (read(page), [("run", "s", "on", 1), ("say", "1")]))


if __name__ == "__main__":
    unittest.main()
