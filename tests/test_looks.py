import itertools
import random
import unittest

from freshpage.looks import own_rules, rules_of
from plain_looks import plain_rules
from shapes import chance_looks

RED = ("color", "red", False)
GOOD = [("a", "color: red"), ("a, b", "color: red"), ("a > b c", "color: red; pad: 3 !"),
        ("#a.b[c][d=e]:first, *", "width: 1/2; color: x; back: inherit !"), ("a:first > *.b", "no-such: x y")]


class Rules(unittest.TestCase):
    def tells(self, row, selectors, *declarations):
        self.assertEqual(rules_of(row), [(selectors, list(declarations))], row)

    def is_passed_over(self, row):
        self.assertEqual(rules_of(row), [None], row)


class Rows(Rules):
    def test_ordinary(self):
        self.tells("a { color: red }", ["a"], RED)
        self.tells("a, b > c d { color: red; pad: 3 ! }", ["a", "b > c d"], RED, ("pad", "3", True))

    def test_several_rows(self):
        looks = "a { color: red }\n\nb {color: red }\nb, c { pad: 1; x: y; border: 2; border: 1 }\n"
        self.assertEqual(rules_of(looks), [(["a"], [RED]), None, None,
                                           (["b", "c"], [("pad", "1", False), None, None, ("border", "1", False)]),
                                           None])

    def test_looks_and_rows_of_no_signs(self):
        self.assertEqual(rules_of(""), [None])
        self.assertEqual(rules_of("\n\n"), [None, None, None])

    def test_each_sign_of_the_form(self):
        for row in ("{ color: red }", " { color: red }", "a{ color: red }", "a {color: red }", "a { color: red}",
                    "a { color: red", "a  color: red }", "a { }", "a {  }", "a {}", "a", "a { color: red } ",
                    " a { color: red }", "a  { color: red }", "a {  color: red }", "a { color: red  }",
                    "a { color: red }}", "a {{ color: red }", "a { { color: red }", "a { color: red } }",
                    "a ( color: red )", "a } color: red {", "a { color: red } b { color: red }",
                    "a { color: red };", "a { color: red }a", "a { color: red;  }"):
            self.is_passed_over(row)

    def test_each_sign_left_out_doubled_exchanged(self):
        for selectors, declarations in GOOD:
            row = f"{selectors} {{ {declarations} }}"
            self.assertNotEqual(rules_of(row), [None])
            for k, sign in enumerate(row):
                for other in ("", sign * 2, " ", ",", ";", ":", "{", "}", ">", "!", "x", "X", "7", "-", "[", "]", "=",
                              "#", ".", "*"):
                    changed = row[:k] + other + row[k + 1:]
                    self.assertEqual(rules_of(changed), plain_rules(changed), changed)

    def test_by_names(self):
        self.assertEqual(rules_of(looks="a { color: red }"), [(["a"], [RED])])

    def test_any_looks(self):
        chance = random.Random(3)
        for _ in range(500):
            looks = chance_looks(chance, 8)
            self.assertEqual(rules_of(looks), plain_rules(looks), looks)
            for _ in range(5):
                at = chance.randrange(len(looks))
                looks = looks[:at] + chance.choice(" ,;:{}>!#.[]=*a-7\n") + looks[at + chance.randint(0, 1):]
                self.assertEqual(rules_of(looks), plain_rules(looks), looks)

    def test_all_short_rows(self):
        for pieces in itertools.product(("a", " ", ", ", " > ", ".b", "*", ":first", "[c", "=1", "]", "#"), repeat=4):
            row = "".join(pieces) + " { color: red }"
            self.assertEqual(rules_of(row), plain_rules(row), row)


class Selectors(Rules):
    def selects(self, selector):
        self.tells(f"{selector} {{ color: red }}", [selector], RED)
        self.tells(f"b, {selector} {{ color: red }}", ["b", selector], RED)
        self.tells(f"{selector}, b {{ color: red }}", [selector, "b"], RED)
        self.tells(f"b {selector} {{ color: red }}", [f"b {selector}"], RED)

    def is_none(self, *selectors):
        for selector in selectors:
            self.is_passed_over(f"{selector} {{ color: red }}")
            self.is_passed_over(f"b, {selector} {{ color: red }}")
            self.is_passed_over(f"{selector}, b {{ color: red }}")
            self.is_passed_over(f"b > {selector} {{ color: red }}")

    def test_how_many(self):
        for many in range(1, 7):
            self.tells(", ".join(["a"] * many) + " { color: red }", ["a"] * many, RED)
        for many in (7, 8, 20):
            self.is_passed_over(", ".join(["a"] * many) + " { color: red }")

    def test_how_they_are_parted(self):
        for parting in (",", " , ", ",  ", " ,", ";", "; ", ", , ", ",\n"):
            self.assertNotIn(["a", "b"], [rule and rule[0] for rule in rules_of(f"a{parting}b {{ color: red }}")])
        self.is_passed_over("a, { color: red }")
        self.is_passed_over(", a { color: red }")
        self.is_passed_over("a,  { color: red }")

    def test_how_many_compounds(self):
        for parting in (" ", " > "):
            for many in range(1, 5):
                self.tells(parting.join(["a"] * many) + " { color: red }", [parting.join(["a"] * many)], RED)
            for many in (5, 6, 9):
                self.is_passed_over(parting.join(["a"] * many) + " { color: red }")
        for four in ("a > b c > d", "a b > c d", "a b c > d", "a > b c d"):
            self.tells(four + " { color: red }", [four], RED)
            self.is_none(four + " e", four + " > e", "e " + four, "e > " + four)

    def test_how_compounds_are_parted(self):
        self.is_none("a  b", "a >b", "a> b", "a>b", "a >  b", "a  > b", "a > > b", "a >", "> a", "a > ", " > a", "a ",
                     " a", ">", "", " ", "a + b")

    def test_names(self):
        for name in ("a", "abcdefghijkl", "a-", "a-b", "*", "page", "script"):
            self.selects(name)
        self.is_none("A", "aB", "-a", "a1", "1", "abcdefghijklm", "**", "*a", "a*", "a_b", "&", "a&lt;")

    def test_each_test(self):
        for test in ("#w", ".w", "[w]", "[w=v]", ":first"):
            for name in ("", "*", "a", "abcdefghijkl"):
                self.selects(name + test)
                self.selects(name + test + test)
                self.selects(name + test * 9)
                for other in ("#x", ".x", "[x]", "[x=1]", ":first"):
                    self.selects(name + test + other)
            self.is_none(test + "*", test + " > ", test + "1")

    def test_a_name_stands_ahead(self):
        self.is_none("[w]a", "[w=v]a", "[w]*", ".w*", "#w*", ":first*")

    def test_words_of_tests(self):
        for word in ("w", "abcdefghijkl", "w-", "w-x"):
            for test in (f"#{word}", f".{word}", f"[{word}]", f"[{word}=v]"):
                self.selects(test)
        for word in ("", "W", "wX", "-w", "1w", "w1", "abcdefghijklm", " w", "w ", "*", "_"):
            self.is_none(f"#{word}", f".{word}", f"[{word}]", f"[{word}=v]")

    def test_values_of_tests(self):
        for value in ("v", "1", "-", "0", "9", "a1-", "-1", "123456789012", "abcdefghijkl", "------------"):
            self.selects(f"[w={value}]")
        self.is_none("[w=]", "[w=abcdefghijklm]", "[w=1234567890123]", "[w=V]", "[w=a b]", "[w=a_]", '[w="v"]', "[w=*]",
                     "[w= v]", "[w=v ]", "[w =v]", "[ w=v]", "[w==v]", "[w=v=v]", "[w=&]")

    def test_broken_tests(self):
        self.is_none("#", ".", "[", "]", "[]", "[w", "w]", "[w=v", "w=v]", "[=v]", "[w]]", "[[w]", "(w)", ":", "::first",
                     ":firs", ":firstx", ":first-", ":First", "first:", ":last", "a:", "a#", "a.", "a[", "a.b.", "..b",
                     "a:first:", "#a#", ":first:firs", "a:first-child")


class Declarations(Rules):
    def test_how_many(self):
        for many in range(1, 13):
            signs = "; ".join(["color: red"] * many)
            self.tells(f"a {{ {signs} }}", ["a"], *[RED] * many)
            self.assertEqual(own_rules(signs), [RED] * many)
        for many in (13, 14, 40):
            signs = "; ".join(["color: red"] * many)
            self.is_passed_over(f"a {{ {signs} }}")
            self.assertEqual(own_rules(signs), [])
        unlike = "; ".join(["color: x"] * 13)
        self.is_passed_over(f"a {{ {unlike} }}")

    def both(self, signs, *declarations):
        self.tells(f"a {{ {signs} }}", ["a"], *declarations)
        self.assertEqual(own_rules(signs), list(declarations), signs)

    def neither(self, *texts):
        for signs in texts:
            for row in (signs, f"color: red; {signs}", f"{signs}; color: red", f"color: red; {signs}; color: red"):
                self.assertNotIn(["a"], [rule and rule[0] for rule in rules_of(f"a {{ {row} }}")], row)
                self.assertEqual(own_rules(row), [], row)

    def test_strong(self):
        self.both("color: red !", ("color", "red", True))
        self.both("color: inherit !; pad: 3", ("color", "inherit", True), ("pad", "3", False))
        for signs in ("color: !", "color: red!", "color: !red", "color: ! !", "color: red ! !", "color: red !!",
                      "color: !!", "x: red !", "color: rad !"):
            self.both(signs, None)

    def test_blanks_ahead_of_strong(self):
        self.neither("color: red  !", "color: red !  !", "color: red ! ", "color:  !", "color:   !")

    def test_passed_over_amid_others(self):
        self.both("x: y; color: red; color: rod; pad: 3; pad: 21", None, RED, None, ("pad", "3", False), None)
        self.both("back: a b", None)
        self.both("back: a  b", None)
        self.both("back: a, b", None)
        self.both("back: : a", None)
        self.both("back: a: b", None)
        self.both("abcdefghijkl: >#.[]=*!\"'<&~", None)

    def test_a_word_and_a_value(self):
        self.neither("color", "color:", "color: ", "color:red", "color:  red", "color : red", " color: red",
                     "color: red ", ": red", "Color: red", "col or: red", "color1: red", "-color: red",
                     "abcdefghijklm: red", "color; red", "color:: red", "color=red", "")

    def test_signs_that_no_value_has(self):
        self.neither("color: {", "color: }", "color: a{b", "color: a}b", "color: a;b", "color: ;", "color: red;",
                     "color: a\nb", "color: red\n", "color: a\n!", "color: x { y", "color: x } y")

    def test_how_they_are_parted(self):
        for parting in (";", ";  ", " ; ", " ;", ", ", "; ; ", ";;", " "):
            signs = f"color: red{parting}pad: 3"
            self.assertNotEqual(own_rules(signs), [RED, ("pad", "3", False)])
        self.neither("color: red;pad: 3", "color: red ; pad: 3", "color: red;  pad: 3", "color: red; ; pad: 3")
        self.both("color: red, pad: 3", None)

    def test_own_rules(self):
        self.assertEqual(own_rules(""), [])
        self.assertEqual(own_rules("a { color: red }"), [])
        self.assertEqual(own_rules("{ color: red }"), [])
        self.assertEqual(own_rules("color: red\npad: 3"), [])
        self.assertEqual(own_rules(text="color: red; x: y"), [RED, None])

    def test_kinds(self):
        (told,) = rules_of("a, b { color: red; color: blue !; x: y }")
        self.assertEqual((type(told), type(told[0]), type(told[1])), (tuple, list, list))
        for declaration in told[1][:2]:
            self.assertEqual([type(part) for part in declaration], [str, str, bool])
        self.assertEqual(type(own_rules("color: red")[0]), tuple)
        self.assertIs(own_rules("color: red")[0][2], False)


class OwnLists(unittest.TestCase):
    def test_rules(self):
        looks = "a { color: red; x: y }\na { color: red; x: y }"
        before = rules_of(looks)
        told = rules_of(looks)
        told[0][0].append("b")
        told[0][1].clear()
        self.assertEqual(told[1], before[1])
        told.pop()
        self.assertEqual(rules_of(looks), before)

    def test_own_rules(self):
        for signs, before in (("color: red", [RED]), ("", []), ("x", [])):
            told = own_rules(signs)
            told.append(1)
            self.assertEqual(own_rules(signs), before)


if __name__ == "__main__":
    unittest.main()
