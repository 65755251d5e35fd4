"""matches, styles and style_lead are asked tens of thousands of times: they answer as before, and soon."""

import time
import unittest

from freshpage.looks import rules_of
from freshpage.reader import read
from freshpage.selectors import matches
from freshpage.styles import PROPERTIES, style_lead, styles
from freshpage.trees import nodes_of
from plain_looks import plain_matches, plain_paths, plain_styles
from test_great_pages import TREE

PAGE = "".join(f'<p id="{name}" class="b c"><b look="color: red; pad: 2">x<em class="d">y</em></b></p>'
               for name in ("aa", "ab", "ac", "ad", "ae", "af"))
FIRST = ("p", "b", "em", "p.b", ".d", "b > em", "a *")
SELECTORS = ("p", "b", "*", ".d", "#ac", "p.b > b", "#aa b:first", "p b em.d", ".c[id] > b em", "* > *:first", "b > em", "a *")


def row(first, number):
    name = first.lstrip(".")[0]
    return (f"{first}, p.b > b, #a{name} b:first, p b em.d, .c[id] > b em, * > *:first "
            f"{{ color: red; pad: {number}; align: right !; width: 1/2 }}")


def looks_of(more):
    """The rows of looks, with a row more of which nothing comes, so that no two are the same."""
    return "\n".join([*[row(first, number) for number, first in enumerate(FIRST)], f"none {{ pad: {more} }}"])


def great_looks(many):
    selectors = ("a.x > a b", ".y a:first", "#z > #z .x", "a a > a b", "*:first > a.y a", "b:first", "* * * *", "a.x.y[id] *.y#z a")
    return "\n".join(f"{', '.join((selectors * 2)[k % 8:k % 8 + 6])} {{ color: red; pad: {k % 21}; margin: 2; back: blue }}"
                     for k in range(many, many + 60))


class Asked(unittest.TestCase):
    def soonest(self, ask):
        """How long the soonest of some goes takes, in milliseconds; each is told its number."""
        told = []
        for go in range(6):
            begin = time.perf_counter()
            ask(go)
            told.append(time.perf_counter() - begin)
        return min(told) * 1000


class Answers(Asked):
    TREE = read(PAGE)

    def test_the_page(self):
        self.assertEqual(len(nodes_of(self.TREE)), 31)
        self.assertNotIn(None, rules_of(looks_of(0)))

    def test_styles_and_leads(self):
        looks = looks_of(0)
        plain = plain_styles(self.TREE, looks)
        for _ in range(2):
            self.assertEqual(styles(self.TREE, looks), [style for style, _ in plain])
            for node, (_, leads) in enumerate(plain):
                self.assertEqual([style_lead(self.TREE, looks, node, name) for name in PROPERTIES], leads)

    def test_some_of_them(self):
        looks = looks_of(0)
        for node, name, told in ((0, "color", ("plain",)), (1, "color", ("row", 3, 0)), (1, "pad", ("row", 3, 1)), (2, "color", ("own", 0)),
                                 (2, "pad", ("own", 1)), (2, "align", ("row", 6, 2)), (3, "align", ("parent", 2)),
                                 (4, "width", ("row", 6, 3)), (4, "back", ("plain",)), (6, "pad", ("row", 3, 1)), (6, "hide", ("parent", 0))):
            self.assertEqual(style_lead(self.TREE, looks, node, name), told, (node, name))

    def test_matches(self):
        paths = plain_paths(self.TREE)
        for _ in range(2):
            for selector in SELECTORS:
                told = [matches(selector, self.TREE, node) for node in range(31)]
                self.assertEqual(told, [not is_text and plain_matches(selector, path) for path, _, is_text in paths], selector)

    def test_in_turns(self):
        trees = [read(PAGE.replace("em", name)) for name in ("em", "b", "i", "em", "p", "page")]
        sheets = [looks_of(k) for k in range(12)]
        for go in range(60):
            tree, looks = trees[go * 7 % 6], sheets[go * 5 % 12]
            node, name = go * 11 % 31, PROPERTIES[go * 3 % 12]
            plain = plain_styles(tree, looks)
            self.assertEqual(style_lead(tree, looks, node, name), plain[node][1][PROPERTIES.index(name)])
            self.assertEqual(styles(tree, looks), [style for style, _ in plain])
            selector = SELECTORS[go % 12]
            path, _, is_text = plain_paths(tree)[node]
            self.assertEqual(matches(selector, tree, node), not is_text and plain_matches(selector, path))

    def test_told_lists_are_new(self):
        looks = looks_of(0)
        for _ in range(2):
            told = styles(self.TREE, looks)
            self.assertEqual(len(told), 31)
            told.clear()

    def test_equal_trees_that_are_not_the_same(self):
        looks = looks_of(0)
        for _ in range(3):
            tree = read(PAGE)
            self.assertEqual(style_lead(tree, looks, 2, "pad"), ("own", 1))
            self.assertIs(matches("p > b", tree, 2), True)


class Soon(Asked):
    """Bounds that are far from what is asked for, so that a slow machine keeps them, and what was here ahead does not."""

    def test_all_leads_of_the_page(self):
        def ask(go):
            tree = read(PAGE)
            looks = looks_of(go)
            for node in range(31):
                for name in PROPERTIES:
                    style_lead(tree, looks, node, name)

        self.assertLess(self.soonest(ask), 40)

    def test_all_matches_of_a_dozen_selectors(self):
        def ask(go):
            tree = read(PAGE.replace("em", f"e{'m' * go}"))
            for selector in SELECTORS:
                for node in range(31):
                    matches(selector, tree, node)

        self.assertLess(self.soonest(ask), 7)

    def test_all_matches_node_by_node(self):
        def ask(go):
            tree = read(PAGE.replace("em", f"i{'m' * go}"))
            for node in range(31):
                for selector in SELECTORS:
                    matches(selector, tree, node)

        self.assertLess(self.soonest(ask), 7)

    def test_styles_of_a_great_page(self):
        self.assertNotIn(None, rules_of(great_looks(0)))
        self.assertLess(self.soonest(lambda go: styles(TREE, great_looks(go))), 16)


if __name__ == "__main__":
    unittest.main()
