import random
import unittest

from freshpage.reader import read
from freshpage.selectors import matches, weight
from freshpage.trees import nodes_of
from plain_looks import plain_matches, plain_paths, plain_weight
from shapes import chance_page, chance_selector, page, tag, text


class Matches(unittest.TestCase):
    def found(self, selector, tree):
        """The numbers of the nodes that are matched."""
        told = [matches(selector, tree, node) for node in range(len(nodes_of(tree)))]
        self.assertEqual({type(holds) for holds in told}, {bool})
        return [node for node, holds in enumerate(told) if holds]

    def finds(self, selector, tree, *nodes):
        self.assertEqual(self.found(selector, tree), list(nodes), selector)

    def passes(self, test, *worths):
        for name in ("", "*", "a"):
            self.finds(name + test, page(tag("a", worths=worths)), 1)
        self.finds("b" + test, page(tag("a", worths=worths)))

    def fails(self, test, *worths):
        for name in ("", "*", "a", "b"):
            self.finds(name + test, page(tag("a", worths=worths)))


class Compounds(Matches):
    TREE = page(text("x"), tag("a", text("y"), tag("b"), tag("page", tag("a"))), tag("script", text("z")))

    def test_names(self):
        self.finds("a", self.TREE, 2, 6)
        self.finds("b", self.TREE, 4)
        self.finds("page", self.TREE, 0, 5)
        self.finds("script", self.TREE, 7)
        self.finds("c", self.TREE)
        self.finds("text", self.TREE)

    def test_any_name(self):
        self.finds("*", self.TREE, 0, 2, 4, 5, 6, 7)

    def test_a_text_is_never_matched(self):
        for selector in ("*", ":first", "* > *", "a *", "page *", "*:first", "page > *:first", "script *"):
            for node in (1, 3, 8):
                self.assertIs(matches(selector, self.TREE, node), False)

    def test_where_no_node_is(self):
        for node in (-1, 9, 10 ** 19):
            self.assertIs(matches("*", self.TREE, node), False)

    def test_names_near_one_another(self):
        tree = page(tag("list"), tag("lis"), tag("lists"), tag("list-a"))
        self.finds("list", tree, 1)
        self.finds("lis", tree, 2)
        self.finds("list-a", tree, 4)


class Tests(Matches):
    def test_id(self):
        self.passes("#w", ("id", "w"))
        self.passes("#w", ("class", "x"), ("id", "w"))
        for worths in ((), (("id", "x"),), (("id", ""),), (("id", "w "),), (("id", " w"),), (("id", "w x"),),
                       (("id", "ww"),), (("class", "w"),), (("w", "id"),), (("w", "w"),), (("id", "w\n"),)):
            self.fails("#w", *worths)

    def test_class(self):
        for value in ("w", "w x", "x w", "x w y", "w  x", "x  w", " w", "w ", "  w  ", "w w", "w-x w"):
            self.passes(".w", ("class", value))
        for value in ("", " ", "x", "ww", "w-x", "w\nx", "x\nw", "w\n", "\nw", "w\n x", "w,x", "W", "x  y"):
            self.fails(".w", ("class", value))
        self.fails(".w")
        self.fails(".w", ("id", "w"))
        self.fails(".w", ("w", "class"))

    def test_line_feeds_part_no_words(self):
        tree = page(tag("a", worths=(("class", "x\ny z"),)))
        self.finds(".x", tree)
        self.finds(".y", tree)
        self.finds(".z", tree, 1)

    def test_a_worth(self):
        for value in ("", "x", " ", "w"):
            self.passes("[w]", ("w", value))
        self.passes("[w]", ("x", ""), ("w", ""))
        self.fails("[w]")
        self.fails("[w]", ("x", "w"))
        self.fails("[w]", ("ww", "w"))
        self.passes("[class]", ("class", ""))
        self.passes("[id]", ("id", ""))

    def test_a_value(self):
        self.passes("[w=v]", ("w", "v"))
        self.passes("[w=-1]", ("w", "-1"))
        self.passes("[w=123456789012]", ("w", "123456789012"))
        self.passes("[class=v]", ("class", "v"))
        for worths in ((), (("w", ""),), (("w", "V"),), (("w", "vv"),), (("w", "v "),), (("w", "v x"),), (("x", "v"),),
                       (("v", "w"),), (("w", "x"), ("x", "v"))):
            self.fails("[w=v]", *worths)
        self.fails("[class=v]", ("class", "v x"))
        self.fails("[w=1]", ("w", "01"))

    def test_several(self):
        worths = (("id", "w"), ("class", "x y"), ("z", "1"))
        self.passes("#w.x.y[z][z=1]:first", *worths)
        for test in ("#v", ".v", "[v]", "[z=2]", "[v=1]"):
            self.fails("#w.x.y[z][z=1]:first" + test, *worths)
            self.fails(test + "#w.x.y[z][z=1]:first", *worths)
            self.fails("#w" + test + ":first", *worths)

    def test_the_same_one_twice(self):
        self.passes("#w#w", ("id", "w"))
        self.passes(".w.w.w", ("class", "w"))
        self.passes("[w=v][w=v]", ("w", "v"))
        self.fails("[w=v][w=x]", ("w", "v"))

    def test_first(self):
        self.finds(":first", page(), 0)
        self.finds("page:first", page(tag("page", tag("page"), tag("page")), tag("page")), 0, 1, 2)
        self.finds(":first", page(tag("a"), tag("b"), tag("a")), 0, 1)
        self.finds("a:first", page(tag("b"), tag("a")))
        self.finds("a:first", page(tag("b"), tag("a", tag("a"))), 3)

    def test_first_behind_texts(self):
        tree = page(text("x"), tag("a", text("y"), tag("b"), text("z"), tag("b")), text("w"), tag("a"))
        self.finds(":first", tree, 0, 2, 4)

    def test_first_behind_a_script(self):
        self.finds("a:first", page(tag("script", text("x")), tag("a")))
        self.finds("script:first", page(tag("script", text("x")), tag("a")), 1)

    def test_first_among_like_ones(self):
        self.finds("a:first", page(tag("a", tag("a"), tag("a")), tag("a", tag("a"))), 1, 2, 5)


class Partings(Matches):
    TREE = page(tag("a", tag("b", tag("c", tag("b", tag("c"), tag("d"))))), tag("c"), tag("b", tag("c")))

    def test_however_deep(self):
        self.finds("a c", self.TREE, 3, 5)
        self.finds("a b c", self.TREE, 3, 5)
        self.finds("b b", self.TREE, 4)
        self.finds("b c", self.TREE, 3, 5, 9)
        self.finds("page c", self.TREE, 3, 5, 7, 9)
        self.finds("c a", self.TREE)
        self.finds("c c", self.TREE, 5)
        self.finds("c c c", self.TREE)

    def test_a_child(self):
        self.finds("a > b", self.TREE, 2)
        self.finds("a > c", self.TREE)
        self.finds("b > c", self.TREE, 3, 5, 9)
        self.finds("page > c", self.TREE, 7)
        self.finds("page > a > b > c", self.TREE, 3)
        self.finds("a > b > c > b", self.TREE, 4)
        self.finds("* > page", self.TREE)

    def test_both(self):
        self.finds("page > a c", self.TREE, 3, 5)
        self.finds("a b > c", self.TREE, 3, 5)
        self.finds("page b > c", self.TREE, 3, 5, 9)
        self.finds("page > b c", self.TREE, 9)
        self.finds("a > b c > d", self.TREE)
        self.finds("a > b c d", self.TREE, 6)

    def test_none_is_around_itself(self):
        self.finds("c c", page(tag("c")))
        self.finds("page page", page(tag("a")))
        self.finds("a:first a", page(tag("a", tag("b"))))
        self.finds("* *", page(tag("a")), 1)
        self.finds("* * *", page(tag("a", text("x"))))

    def test_beside_is_not_around(self):
        self.finds("a b", page(tag("a"), tag("b"), text("x"), tag("c", tag("b"))))
        self.finds("a > b", page(tag("a", text("x")), tag("b")))

    def test_the_nearest_one_leads_nowhere(self):
        tree = page(tag("x", tag("b", tag("c", tag("b", tag("d"))))))
        self.finds("x > b d", tree, 5)
        self.finds("c > b d", tree, 5)
        self.finds("x > b > c d", tree, 5)
        deep = page(tag("x", tag("a", tag("y", tag("a", tag("z", tag("a", tag("d"))))))))
        self.finds("x > a d", deep, 7)
        self.finds("y > a d", deep, 7)
        self.finds("z > a d", deep, 7)
        self.finds("x > a a d", deep, 7)
        self.finds("x a y d", deep, 7)
        self.finds("z > a a d", deep)
        self.finds("d > a d", deep)

    def test_the_tests_of_those_around_count(self):
        tree = page(tag("a", tag("b"), worths=(("class", "x"),)), tag("a", tag("b")))
        self.finds(".x b", tree, 2)
        self.finds("a:first > b", tree, 2)
        self.finds("a b:first", tree, 2, 4)
        self.finds(".x > a", tree)

    def test_any_page_and_selector(self):
        chance = random.Random(5)
        for _ in range(500):
            tree = read(chance_page(chance, 14))
            for _ in range(6):
                selector = chance_selector(chance)
                told = [not is_text and plain_matches(selector, path) for path, _, is_text in plain_paths(tree)]
                self.assertEqual(self.found(selector, tree), [k for k, holds in enumerate(told) if holds],
                                 (tree, selector))
                self.assertEqual(weight(selector), plain_weight(selector), selector)


class Weights(unittest.TestCase):
    def test_each(self):
        for selector, told in (("a", (0, 0, 1)), ("*", (0, 0, 0)), ("#a", (1, 0, 0)), (".a", (0, 1, 0)), ("[a]", (0, 1, 0)),
                               ("[a=b]", (0, 1, 0)), (":first", (0, 1, 0)), ("page", (0, 0, 1)), ("*:first", (0, 1, 0))):
            self.assertEqual(weight(selector), told, selector)

    def test_sums(self):
        self.assertEqual(weight("a#b.c[d][e=f]:first"), (1, 4, 1))
        self.assertEqual(weight("a > b c > d"), (0, 0, 4))
        self.assertEqual(weight("a * > * b"), (0, 0, 2))
        self.assertEqual(weight("#a #b > #c.d a"), (3, 1, 1))
        self.assertEqual(weight("a.b > c#d :first[e=a]"), (1, 3, 2))

    def test_the_same_one_twice_counts_twice(self):
        self.assertEqual(weight("#a#a.b.b.b:first:first"), (2, 5, 0))
        self.assertEqual(weight("a a"), (0, 0, 2))

    def test_words_within_tests_are_no_names(self):
        self.assertEqual(weight("[id=first]"), (0, 1, 0))
        self.assertEqual(weight("#id.class"), (1, 1, 0))

    def test_kinds(self):
        told = weight("a#b")
        self.assertEqual((type(told), [type(part) for part in told]), (tuple, [int] * 3))

    def test_by_names(self):
        self.assertEqual(weight(selector="a"), (0, 0, 1))
        self.assertIs(matches(node=1, tree=page(tag("a")), selector="a"), True)

    def test_a_tree_is_as_it_was(self):
        tree = page(tag("a", text("x"), worths=(("class", "x"),)))
        before = repr(tree)
        matches("page > a.x:first", tree, 1)
        self.assertEqual(repr(tree), before)


if __name__ == "__main__":
    unittest.main()
