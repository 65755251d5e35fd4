"""What holds of any text and any tree, and of the bounds that the document names."""

import itertools
import unittest

from freshpage.reader import read, stretches
from freshpage.words import is_word, plain_signs, written_sign
from freshpage.writer import is_whole, written
from plain_reader import page_of, stretches_of, tree_of
from shapes import PIECES, chance_texts, nodes_in, page, tag, text


class AnyText(unittest.TestCase):
    def holds(self, signs):
        tree = read(signs)
        plain = page_of(signs)
        self.assertEqual(tree, tree_of(plain), signs)
        self.assertEqual(stretches(signs), stretches_of(plain), signs)
        self.assertIs(is_whole(tree), True, signs)
        self.assertEqual(read(written(tree)), tree, signs)
        self.assertEqual(written(read(written(tree))), written(tree), signs)

    def test_all_short_texts(self):
        for many in range(4):
            for pieces in itertools.product(PIECES, repeat=many):
                self.holds("".join(pieces))

    def test_longer_texts(self):
        for signs in chance_texts(3000, 30):
            self.holds(signs)

    def test_each_node_stands_where_it_is_told(self):
        for signs in chance_texts(500, 12):
            ahead = None
            for node, (first, behind) in zip(nodes_in(read(signs)), stretches(signs), strict=True):
                part = signs[first:behind]
                if ahead is None:
                    self.assertEqual(part, signs)
                elif ahead[:2] == ("tag", "script") and ahead[3] == (node,):
                    self.assertEqual(part, node[1], signs)
                else:
                    self.assertEqual(read(part)[3], (node,), signs)
                ahead = node


class Kinds(unittest.TestCase):
    def is_tuples(self, node):
        self.assertIs(type(node), tuple)
        if node[0] == "text":
            self.assertEqual([type(part) for part in node], [str, str])
            return
        self.assertEqual([type(part) for part in node], [str, str, tuple, tuple])
        for worth in node[2]:
            self.assertEqual((type(worth), [type(part) for part in worth]), (tuple, [str, str]))
        for child in node[3]:
            self.is_tuples(child)

    def test_trees_are_tuples(self):
        for signs in ("", 'a<b x="1" y="&lt;">c<d>e</b>', "<script>x", *chance_texts(100, 20)):
            self.is_tuples(read(signs))

    def test_by_names(self):
        tree = page(tag("a", text("<")))
        self.assertEqual(read(text="<a>&lt;"), tree)
        self.assertEqual(stretches(text="<a>"), [(0, 3), (0, 3)])
        self.assertEqual(written(tree=tree), "<a>&lt;</a>")
        self.assertIs(is_whole(tree=tree), True)
        self.assertIs(is_word(text="a"), True)
        self.assertEqual(written_sign(text="<"), "&lt;")
        self.assertEqual(plain_signs(text="&lt;"), "<")

    def test_a_tree_is_as_it_was(self):
        tree = page(tag("a", text("<"), tag("script", text("x")), worths=(("x", "&"),)), text("y"))
        before = repr(tree)
        written(tree)
        is_whole(tree)
        self.assertEqual(repr(tree), before)

    def test_the_same_is_told_again(self):
        signs = 'a<b x="1">c</x>d</b><script>e'
        self.assertEqual(read(signs), read(signs))
        self.assertEqual(stretches(signs), stretches(signs))


class Bounds(unittest.TestCase):
    def holds(self, signs):
        tree = read(signs)
        self.assertIs(is_whole(tree), True)
        self.assertEqual(stretches(signs)[0], (0, len(signs)))
        again = written(tree)
        self.assertEqual(written(read(again)), again)

    def test_a_page_at_the_bounds(self):
        signs = "<a>" * 18 + "x" + "</a>" * 18 + "<p>y</p>" * 49 + "<q></q>"
        signs += "z" * (4000 - len(signs))
        self.assertEqual((len(signs), len(nodes_in(read(signs)))), (4000, 120))
        for _ in range(50):
            self.holds(signs)

    def test_somewhat_beyond(self):
        for signs in ("x" * 4100, "<a></a>" * 140, "<a>" * 40 + "x", "&lt;" * 1100, '<a x="' + "y" * 4100 + '">',
                      "<script>" + "<" * 4100, "<" * 4100, "</a>" * 1100, "<a" + ' x="1"' * 700 + ">"):
            self.holds(signs)

    def test_far_beyond(self):
        self.holds("<a>" * 3000)
        self.holds("<a>" * 2000 + "</b>" * 100 + "</a>" * 2000)
        self.assertEqual(written(read("<a>" * 3000)), "<a>" * 3000 + "</a>" * 3000)

    def test_trees_somewhat_beyond(self):
        tree = text("x")
        for _ in range(60):
            tree = tag("a", tree, tag("b", text("&")))
        self.assertIs(is_whole(page(tree)), True)
        self.assertEqual(read(written(page(tree))), page(tree))


if __name__ == "__main__":
    unittest.main()
