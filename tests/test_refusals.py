import unittest

from freshpage.errors import NoNode, NotFormed, NotTag, TooLarge
from freshpage.reader import read
from freshpage.trees import cut, drop_worth, nodes_of, put, put_worth, set_text
from freshpage.writer import written
from shapes import page, tag, text

# Of the page 0 a tag 1 with a worth and a text 2, a script 3 with its text 4, and a text 5.
TREE = page(tag("a", text("x"), worths=(("k", "1"),)), tag("script", text("y")), text("z"))
NONE = (-1, 6, 7, -6, 10 ** 19, -10 ** 19)
NO_WORDS = ("", "-a", "A", "a b", "k1", "a" * 13, "k\n", " k", "a_b", "a" * 5000)
LONG = "x" * 8000


class Refusals(unittest.TestCase):
    def refused(self, error, deed, tree, *told):
        before = repr(tree)
        with self.assertRaises(error) as caught:
            deed(tree, *told)
        self.assertIs(type(caught.exception), error)
        self.assertEqual(repr(tree), before)

    def too_large(self, most, deed, tree, *told):
        before = repr(tree)
        with self.assertRaises(TooLarge) as caught:
            deed(tree, *told)
        self.assertEqual(caught.exception.most, most)
        self.assertEqual(repr(tree), before)


class NoSuchNode(Refusals):
    def test_no_node_has_the_number(self):
        for node in NONE:
            self.refused(NoNode, put_worth, TREE, node, "k", "1")
            self.refused(NoNode, drop_worth, TREE, node, "k")
            self.refused(NoNode, put, TREE, node, 0, "x")
            self.refused(NoNode, cut, TREE, node)
            self.refused(NoNode, set_text, TREE, node, "x")

    def test_one_beyond_the_page_alone(self):
        for node in (1, -1):
            self.refused(NoNode, put, page(), node, 0, "x")
            self.refused(NoNode, set_text, page(), node, "")

    def test_no_child_has_the_number(self):
        for at in (-1, 4, 5, 10 ** 19, -10 ** 19):
            self.refused(NoNode, put, TREE, 0, at, "x")
            self.refused(NoNode, put, TREE, 0, at, "")
        for at in (-1, 2):
            self.refused(NoNode, put, TREE, 1, at, "x")
        for at in (-1, 1):
            self.refused(NoNode, put, page(tag("a")), 1, at, "x")

    def test_ahead_of_all_others(self):
        large = page(text(LONG))
        for node in (-1, 2, 10 ** 19):
            self.refused(NoNode, put_worth, large, node, "A", LONG)
            self.refused(NoNode, drop_worth, large, node, "A")
            self.refused(NoNode, put, large, node, -1, LONG)
            self.refused(NoNode, cut, large, node)
            self.refused(NoNode, set_text, large, node, LONG + "</script>")


class NoTag(Refusals):
    def test_a_text(self):
        for node in (2, 4, 5):
            self.refused(NotTag, put_worth, TREE, node, "k", "1")
            self.refused(NotTag, drop_worth, TREE, node, "k")
            self.refused(NotTag, put, TREE, node, 0, "x")
            self.refused(NotTag, set_text, TREE, node, "x")

    def test_the_page(self):
        self.refused(NotTag, put_worth, TREE, 0, "k", "1")
        self.refused(NotTag, drop_worth, TREE, 0, "k")
        self.refused(NotTag, cut, TREE, 0)
        self.refused(NotTag, cut, page(), 0)

    def test_a_script(self):
        for at in (0, 1):
            self.refused(NotTag, put, TREE, 3, at, "x")
            self.refused(NotTag, put, TREE, 3, at, "")
        self.refused(NotTag, put, page(tag("script")), 1, 0, "x")

    def test_ahead_of_a_childs_number(self):
        for at in (-1, 2, 9):
            self.refused(NotTag, put, TREE, 3, at, "x")
            self.refused(NotTag, put, TREE, 2, at, "x")

    def test_ahead_of_what_is_not_formed(self):
        for node in (0, 2):
            for name in NO_WORDS:
                self.refused(NotTag, put_worth, TREE, node, name, "1")
                self.refused(NotTag, drop_worth, TREE, node, name)
        self.refused(NotTag, set_text, TREE, 4, "</script>")

    def test_ahead_of_too_large(self):
        large = page(text(LONG), tag("script"))
        for node in (0, 1):
            self.refused(NotTag, put_worth, large, node, "k", "1")
            self.refused(NotTag, put_worth, large, node, "K", "1")
            self.refused(NotTag, drop_worth, large, node, "k")
        for node in (1, 2):
            self.refused(NotTag, put, large, node, 0, LONG)
            self.refused(NotTag, put, large, node, 9, LONG)
        self.refused(NotTag, set_text, large, 1, LONG)
        self.refused(NotTag, cut, large, 0)


class NoChildAheadOfTooLarge(Refusals):
    def test_it(self):
        for at in (-1, 2):
            self.refused(NoNode, put, page(text(LONG)), 0, at, "<a>" * 200)


class NoForm(Refusals):
    def test_a_worths_name(self):
        for name in NO_WORDS:
            self.refused(NotFormed, put_worth, TREE, 1, name, "1")
            self.refused(NotFormed, drop_worth, TREE, 1, name)

    def test_a_scripts_text(self):
        for signs in ("</script>", "x</script>", "</script>x", "<script></script>", "</script></script>"):
            self.refused(NotFormed, set_text, TREE, 3, signs)

    def test_ahead_of_too_large(self):
        large = page(tag("script"), text(LONG))
        self.refused(NotFormed, put_worth, large, 1, "K", LONG)
        self.refused(NotFormed, drop_worth, large, 1, "K")
        self.refused(NotFormed, set_text, large, 1, f"{LONG[9:]}</script>")


class TooManyNodes(Refusals):
    def tree(self, nodes):
        """A page of so many nodes, the last one a tag."""
        return page(text("x"), *[tag("a")] * (nodes - 2))

    def test_just_let(self):
        self.assertEqual(len(nodes_of(put(self.tree(119), 0, 118, "y"))), 120)
        self.assertEqual(len(nodes_of(put(self.tree(117), 0, 0, "<b>y</b><c>"))), 120)
        self.assertEqual(len(nodes_of(set_text(self.tree(119), 118, "y"))), 120)
        self.assertEqual(len(nodes_of(put_worth(self.tree(120), 119, "k", "1"))), 120)
        self.assertEqual(len(nodes_of(drop_worth(self.tree(120), 119, "k"))), 120)
        self.assertEqual(len(nodes_of(cut(self.tree(121), 119))), 120)

    def test_one_beyond(self):
        self.too_large(120, put, self.tree(120), 0, 119, "y")
        self.too_large(120, put, self.tree(117), 0, 0, "<b>y</b><c><d>")
        self.too_large(120, set_text, self.tree(120), 119, "y")
        self.too_large(120, cut, self.tree(122), 119)

    def test_where_nothing_would_be_changed(self):
        for deed, *told in ((put, 0, 0, ""), (drop_worth, 2, "k"), (set_text, 2, "")):
            self.assertEqual(deed(self.tree(120), *told), self.tree(120))
            self.too_large(120, deed, self.tree(121), *told)
        self.too_large(120, put_worth, self.tree(121), 2, "k", "1")

    def test_texts_that_become_one_are_one(self):
        self.assertEqual(put(self.tree(120), 0, 0, "y"), page(text("yx"), *[tag("a")] * 118))
        self.assertEqual(len(nodes_of(put(self.tree(119), 0, 1, "y<b></b>"))), 120)
        self.too_large(120, put, self.tree(120), 0, 1, "y<b></b>")
        many = page(text("x"), tag("b"), text("y"), *[tag("a")] * 118)
        self.assertEqual(len(nodes_of(cut(many, 2))), 120)

    def test_ahead_of_deep_and_long(self):
        self.too_large(120, put, page(), 0, 0, "<a>" * 2666)
        self.too_large(120, put, page(), 0, 0, "<a>" * 120)
        self.too_large(120, put, page(text("x" * 4000)), 0, 0, "<a></a>" * 120)

    def test_somewhat_beyond(self):
        tree = page(*[tag("a", text("x"))] * 70)
        self.too_large(120, cut, tree, 1)
        self.assertEqual(set_text(tree, 0, "x"), page(text("x")))


class TooDeep(Refusals):
    def tree(self, deep, signs="x"):
        """A page of which the deepest node, a text, is so deep."""
        return read("<a>" * (deep - 2) + signs)

    def test_just_let(self):
        self.assertEqual(put(page(), 0, 0, "<a>" * 19), read("<a>" * 19))
        self.assertEqual(put(page(), 0, 0, "<a>" * 18 + "x"), self.tree(20))
        new = read("<a>" * 8 + "<b>" * 10 + "y" + "</b>" * 10 + "x")
        self.assertEqual(put(self.tree(10), 8, 0, "<b>" * 10 + "y"), new)
        self.assertEqual(set_text(read("<a>" * 18), 18, "x"), self.tree(20))
        self.assertEqual(put_worth(self.tree(20), 18, "k", "1"), read("<a>" * 17 + '<a k="1">x'))

    def test_one_beyond(self):
        self.too_large(20, put, page(), 0, 0, "<a>" * 20)
        self.too_large(20, put, page(), 0, 0, "<a>" * 19 + "x")
        self.too_large(20, put, self.tree(10), 8, 0, "<b>" * 11 + "y")
        self.too_large(20, set_text, read("<a>" * 19), 19, "x")

    def test_where_nothing_would_be_changed(self):
        for deed, *told in ((put, 0, 0, ""), (drop_worth, 2, "k"), (set_text, 19, "x")):
            self.too_large(20, deed, self.tree(21), *told)
        self.too_large(20, put_worth, self.tree(21), 2, "k", "1")
        self.too_large(20, cut, read("<a>" * 19 + "x</a>y"), 21)

    def test_a_deed_that_ends_it(self):
        self.assertEqual(cut(self.tree(21), 20), read("<a>" * 19))
        self.assertEqual(cut(self.tree(40), 20), read("<a>" * 19))
        self.assertEqual(set_text(self.tree(40), 18, "x"), self.tree(20))

    def test_ahead_of_long(self):
        self.too_large(20, put, page(), 0, 0, "<a>" * 19 + "x" * 7000)
        self.too_large(20, set_text, read("<a>" * 19), 19, LONG)

    def test_the_deepest_is_not_the_last(self):
        self.too_large(20, put, page(), 0, 0, "<a>" * 19 + "x" + "</a>" * 19 + "<b></b>")


class TooLong(Refusals):
    def test_just_let(self):
        for deed, told, long in ((put, (0, 0, "x" * 3993), 4000), (set_text, (1, "x" * 3993), 4000),
                                 (put_worth, (1, "k", "x" * 3988), 4000), (put, (0, 0, "<b>" + "x" * 3986), 4000)):
            self.assertEqual(len(written(deed(page(tag("a")), *told))), long)

    def test_one_beyond(self):
        tree = page(tag("a"))
        self.too_large(4000, put, tree, 0, 0, "x" * 3994)
        self.too_large(4000, set_text, tree, 1, "x" * 3994)
        self.too_large(4000, put_worth, tree, 1, "k", "x" * 3989)
        self.too_large(4000, put, tree, 0, 0, "<b>" + "x" * 3987)

    def test_signs_that_are_written_by_more(self):
        self.assertEqual(len(written(set_text(page(), 0, "<" * 1000))), 4000)
        self.too_large(4000, set_text, page(), 0, "<" * 1000 + "x")
        self.too_large(4000, set_text, page(), 0, "&" * 801)
        self.too_large(4000, put_worth, page(tag("a")), 1, "k", '"' * 700)
        self.too_large(4000, put, page(), 0, 0, "&lt;" * 1001)
        self.assertEqual(len(written(put(page(), 0, 0, "&gt;" * 2000))), 2000)
        self.assertEqual(len(written(set_text(page(tag("script")), 1, "<" * 3983))), 4000)
        self.too_large(4000, set_text, page(tag("script")), 1, "<" * 3984)

    def test_where_nothing_would_be_changed(self):
        tree = page(text("<" * 1500), tag("a", text("x"), worths=(("k", "1"),)))
        for deed, *told in ((put, 0, 0, ""), (put, 2, 0, "</b>"), (drop_worth, 2, "l"), (put_worth, 2, "k", "1"),
                            (set_text, 2, "x"), (cut, 2), (cut, 3), (drop_worth, 2, "k")):
            self.too_large(4000, deed, tree, *told)
        self.assertEqual(cut(tree, 1), page(tree[3][1]))
        self.assertEqual(set_text(tree, 0, ""), page())

    def test_eight_thousand_signs(self):
        tree = page(tag("a"), tag("script"))
        self.too_large(4000, put, tree, 0, 0, LONG)
        self.too_large(4000, set_text, tree, 1, LONG)
        self.too_large(4000, set_text, tree, 2, LONG)
        self.too_large(4000, put_worth, tree, 1, "k", LONG)
        self.too_large(4000, put, tree, 0, 0, "<script>" + LONG[8:])
        self.too_large(4000, put, tree, 0, 0, '<b k="' + LONG[8:] + '">')
        self.assertEqual(put(tree, 0, 0, "</b>" * 2000), tree)
        new = put(tree, 0, 0, '<b x="1"' + ' x="2"' * 1000 + ">")
        self.assertEqual(new, page(tag("b", worths=(("x", "1"),)), *tree[3]))


if __name__ == "__main__":
    unittest.main()
