import unittest

from freshpage.looks import own_rules, rules_of
from freshpage.properties import HANDED_DOWN, PLAIN, has_value
from freshpage.styles import PROPERTIES
from plain_looks import VALUES

WORDS = {"align": ["left", "center", "right"], "back": ["clear", "black", "red", "green", "blue"],
         "color": ["black", "red", "green", "blue"], "display": ["block", "inline", "none"], "hide": ["no", "yes"],
         "width": ["auto"]}
BOUNDS = {"border": (0, 1), "down": (-50, 50), "right": (-50, 50), "layer": (-9, 9), "margin": (0, 20),
          "pad": (0, 20), "width": (0, 200)}
ALL_WORDS = sorted({word for words in WORDS.values() for word in words})
NEAR_WORDS = ["Left", "LEFT", "lef", "leftt", "middle", "grey", "white", "transparent", "hidden", "true", "Inherit",
              "inherits", "inheri", "initial", "inherit inherit", "none none", "0 0", "auto auto", "plain"]


class Values(unittest.TestCase):
    def has(self, name, value, kept=True):
        told = (name, value, False) if kept else None
        self.assertEqual(own_rules(f"{name}: {value}"), [told], (name, value))
        self.assertEqual(rules_of(f"a {{ {name}: {value} }}"), [(["a"], [told])])
        strong = (name, value, True) if kept else None
        self.assertEqual(own_rules(f"{name}: {value} !"), [strong])

    def has_not(self, name, value):
        self.has(name, value, False)

    def test_the_properties(self):
        self.assertEqual(PROPERTIES, ("align", "back", "border", "color", "display", "down", "hide", "layer", "margin",
                                      "pad", "right", "width"))
        self.assertEqual(list(PROPERTIES), sorted([*PLAIN, "display"]))

    def test_words(self):
        for name in PROPERTIES:
            for word in ALL_WORDS:
                self.has(name, word, word in WORDS.get(name, []))

    def test_inherit(self):
        for name in PROPERTIES:
            self.has(name, "inherit")

    def test_words_near_these(self):
        for name in PROPERTIES:
            for word in NEAR_WORDS:
                self.has_not(name, word)

    def test_numbers(self):
        for name in PROPERTIES:
            least, most = BOUNDS.get(name, (1, 0))
            for number in range(-300, 1100):
                self.has(name, str(number), least <= number <= most)

    def test_the_least_and_the_most_and_one_beyond(self):
        for name, (least, most) in BOUNDS.items():
            self.has(name, str(least))
            self.has(name, str(most))
            self.has_not(name, str(least - 1))
            self.has_not(name, str(most + 1))

    def test_numbers_that_are_not_so_written(self):
        for name in PROPERTIES:
            for value in ("-0", "+1", "+0", "00", "01", "007", "-01", "--1", "1-", "-", "- 1", "1.0", "1e1", "1_0", "0x1",
                          "1 0", "1,0", "one", "1a", "a1", "0" * 400, "1" * 5000, "-" + "1" * 5000, "10px", "1/", "/1"):
                self.has_not(name, value)

    def test_numbers_of_words(self):
        for value in ("0", "1", "-1", "20"):
            for name in ("align", "back", "color", "display", "hide"):
                self.has_not(name, value)

    def test_parts(self):
        for many in range(-1, 15):
            for parts in range(-1, 15):
                self.has("width", f"{many}/{parts}", 1 <= many <= parts <= 12)

    def test_parts_that_are_not_so_written(self):
        for value in ("1/02", "01/2", "1 / 2", "1/ 2", "1 /2", "+1/2", "1/+2", "-1/-2", "1//2", "1/2/3", "/", "1/", "/2",
                      "-0/1", "0/0", "1/1/", "1/a", "a/2", "1:2", "12/12/12", "1/100", "100/100", "auto/2", "1/auto"):
            self.has_not("width", value)
        for name in PROPERTIES[:-1]:
            self.has_not(name, "1/2")

    def test_all_values_that_there_are(self):
        for name, values in VALUES.items():
            for value in values:
                self.has(name, value)

    def test_other_properties(self):
        for name in ("colour", "colors", "colo", "a", "background", "padding", "left", "top", "height", "inherit", "plain",
                     "text-align", "z-index", "align-", "look"):
            for value in ("red", "0", "1", "inherit", "auto", "left", "no"):
                self.has_not(name, value)

    def test_handed_down(self):
        self.assertEqual(HANDED_DOWN, ("align", "color", "hide"))

    def test_any_names(self):
        for name in ("", " ", "a b", "\n"):
            self.assertIs(has_value(name, "inherit"), False)


if __name__ == "__main__":
    unittest.main()
