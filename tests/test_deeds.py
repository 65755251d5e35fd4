import random
import unittest

from freshpage import trees
from freshpage.reader import read
from freshpage.trees import cut, drop_worth, nodes_of, put, put_worth, set_text
from freshpage.writer import is_whole, written
from plain_deeds import outcome, plain_outcome
from shapes import PIECES, chance_texts, page, tag, text


class Deeds(unittest.TestCase):
    def makes(self, told, *children):
        self.assertEqual(told, page(*children))
        self.assertIs(is_whole(told), True)
        self.assertEqual(read(written(told)), told)


class PutWorth(Deeds):
    TREE = page(text("v"), tag("a", tag("b", worths=(("x", "1"),)), text("w"),
                               worths=(("x", "1"), ("y", "2"), ("z", "3"))))

    def worths(self, *worths):
        return (text("v"), tag("a", tag("b", worths=(("x", "1"),)), text("w"), worths=worths))

    def test_in_its_place(self):
        self.makes(put_worth(self.TREE, 2, "x", "4"), *self.worths(("x", "4"), ("y", "2"), ("z", "3")))
        self.makes(put_worth(self.TREE, 2, "y", "4"), *self.worths(("x", "1"), ("y", "4"), ("z", "3")))
        self.makes(put_worth(self.TREE, 2, "z", "4"), *self.worths(("x", "1"), ("y", "2"), ("z", "4")))

    def test_behind_the_others(self):
        self.makes(put_worth(self.TREE, 2, "b", "4"), *self.worths(("x", "1"), ("y", "2"), ("z", "3"), ("b", "4")))

    def test_the_first_one(self):
        self.makes(put_worth(page(tag("a")), 1, "x", "1"), tag("a", worths=(("x", "1"),)))

    def test_the_same_value(self):
        self.assertEqual(put_worth(self.TREE, 2, "y", "2"), self.TREE)

    def test_any_value(self):
        for value in ("", "\n", '"', "<b>", "&lt;", "&", ">", "</script>", " ", "a b"):
            self.makes(put_worth(page(tag("a")), 1, "x", value), tag("a", worths=(("x", value),)))

    def test_any_name_that_is_a_word(self):
        for name in ("a", "a-", "abcdefghijkl", "look", "text"):
            self.makes(put_worth(page(tag("a")), 1, name, "1"), tag("a", worths=((name, "1"),)))

    def test_at_that_tag_alone(self):
        tree = page(tag("a", tag("a"), tag("a")), tag("a"))
        new = tag("a", worths=(("x", "1"),))
        self.makes(put_worth(tree, 1, "x", "1"), tag("a", tag("a"), tag("a"), worths=(("x", "1"),)), tag("a"))
        self.makes(put_worth(tree, 2, "x", "1"), tag("a", new, tag("a")), tag("a"))
        self.makes(put_worth(tree, 3, "x", "1"), tag("a", tag("a"), new), tag("a"))
        self.makes(put_worth(tree, 4, "x", "1"), tag("a", tag("a"), tag("a")), new)

    def test_at_a_script_and_a_tag_named_page(self):
        self.makes(put_worth(page(tag("script", text("x"))), 1, "name", "k"),
                   tag("script", text("x"), worths=(("name", "k"),)))
        self.makes(put_worth(page(tag("page")), 1, "x", "k"), tag("page", worths=(("x", "k"),)))


class DropWorth(Deeds):
    WORTHS = (("x", "1"), ("y", "2"), ("z", "3"))

    def test_where_it_is(self):
        for k, (name, _) in enumerate(self.WORTHS):
            tree = page(tag("b", tag("a", text("t"), worths=self.WORTHS), worths=self.WORTHS))
            rest = self.WORTHS[:k] + self.WORTHS[k + 1:]
            self.makes(drop_worth(tree, 1, name), tag("b", tag("a", text("t"), worths=self.WORTHS), worths=rest))
            self.makes(drop_worth(tree, 2, name), tag("b", tag("a", text("t"), worths=rest), worths=self.WORTHS))

    def test_the_only_one(self):
        self.makes(drop_worth(page(tag("a", worths=(("x", ""),))), 1, "x"), tag("a"))

    def test_where_there_is_none(self):
        for tree in (page(tag("a")), page(tag("a", worths=self.WORTHS))):
            self.assertEqual(drop_worth(tree, 1, "w"), tree)


class Put(Deeds):
    TREE = page(text("v"), tag("a", text("x"), tag("b"), text("y"), tag("c"), worths=(("k", "1"),)))

    def puts(self, at, signs, *children):
        self.makes(put(self.TREE, 2, at, signs), text("v"), tag("a", *children, worths=(("k", "1"),)))

    def test_ahead_of_a_child(self):
        new = tag("d", text("w"))
        self.puts(0, "<d>w</d>", new, text("x"), tag("b"), text("y"), tag("c"))
        self.puts(1, "<d>w</d>", text("x"), new, tag("b"), text("y"), tag("c"))
        self.puts(2, "<d>w</d>", text("x"), tag("b"), new, text("y"), tag("c"))
        self.puts(3, "<d>w</d>", text("x"), tag("b"), text("y"), new, tag("c"))

    def test_behind_all(self):
        self.puts(4, "<d>w</d>", text("x"), tag("b"), text("y"), tag("c"), tag("d", text("w")))
        self.puts(4, "w", text("x"), tag("b"), text("y"), tag("c"), text("w"))

    def test_several_nodes(self):
        self.puts(4, "<d></d>w<e>", text("x"), tag("b"), text("y"), tag("c"), tag("d"), text("w"), tag("e"))

    def test_texts_become_one(self):
        self.puts(0, "w", text("wx"), tag("b"), text("y"), tag("c"))
        self.puts(1, "w", text("xw"), tag("b"), text("y"), tag("c"))
        self.puts(2, "w", text("x"), tag("b"), text("wy"), tag("c"))
        self.puts(1, "w<d></d>z", text("xw"), tag("d"), text("z"), tag("b"), text("y"), tag("c"))
        self.puts(2, "w<d></d>z", text("x"), tag("b"), text("w"), tag("d"), text("zy"), tag("c"))

    def test_texts_on_both_sides(self):
        tree = page(text("x"))
        self.makes(put(tree, 0, 0, "a<d></d>b"), text("a"), tag("d"), text("bx"))
        self.makes(put(tree, 0, 1, "a<d></d>b"), text("xa"), tag("d"), text("b"))
        self.makes(put(page(), 0, 0, "a"), text("a"))

    def test_no_signs_and_ends_of_nothing(self):
        for signs in ("", "</d>", "</a>", "</page></a>", "</script>"):
            for at in range(5):
                self.assertEqual(put(self.TREE, 2, at, signs), self.TREE)

    def test_an_end_does_not_end_what_is_around(self):
        self.puts(4, "w</a>z", text("x"), tag("b"), text("y"), tag("c"), text("wz"))

    def test_tags_that_are_not_ended(self):
        self.puts(0, "<d>w<e>", tag("d", text("w"), tag("e")), text("x"), tag("b"), text("y"), tag("c"))

    def test_scripts(self):
        self.puts(4, "<script><b>&lt;</script>w", text("x"), tag("b"), text("y"), tag("c"),
                  tag("script", text("<b>&lt;")), text("w"))
        self.puts(0, "<script></a>", tag("script", text("</a>")), text("x"), tag("b"), text("y"), tag("c"))

    def test_written_signs_are_read(self):
        self.puts(4, "&lt;d>&amp;lt;", text("x"), tag("b"), text("y"), tag("c"), text("<d>&lt;"))
        self.makes(put(page(text("&")), 0, 1, "lt;"), text("&lt;"))

    def test_at_a_tag_without_children(self):
        self.makes(put(self.TREE, 4, 0, "w"), text("v"), tag("a", text("x"), tag("b", text("w")), text("y"), tag("c"),
                                                             worths=(("k", "1"),)))

    def test_at_the_page(self):
        self.makes(put(page(tag("a"), tag("b")), 0, 1, "w"), tag("a"), text("w"), tag("b"))


class Cut(Deeds):
    def test_between_two_texts(self):
        self.makes(cut(page(text("x"), tag("a", tag("b"), text("z")), text("y")), 2), text("xy"))
        self.makes(cut(page(tag("a", text("x"), tag("b"), text("y")), text("z")), 3), tag("a", text("xy")), text("z"))

    def test_not_between_two_texts(self):
        self.makes(cut(page(tag("a"), text("x"), tag("b")), 2), tag("a"), tag("b"))
        self.makes(cut(page(text("x"), tag("a"), tag("b"), text("y")), 2), text("x"), tag("b"), text("y"))

    def test_the_last_one_of_a_tag(self):
        self.makes(cut(page(tag("a", text("x"))), 2), tag("a"))
        self.makes(cut(page(tag("a", tag("b", text("x")))), 2), tag("a"))
        self.makes(cut(page(text("x")), 1))

    def test_the_text_of_a_script(self):
        self.makes(cut(page(tag("script", text("<a>")), text("x")), 2), tag("script"), text("x"))
        self.makes(cut(page(tag("script", text("<a>")), text("x")), 1), text("x"))

    def test_of_like_nodes_the_one_of_that_number(self):
        tree = page(tag("a", tag("b")), tag("a", tag("b")), text("x"), tag("a", tag("b")))
        self.makes(cut(tree, 3), tag("a", tag("b")), text("x"), tag("a", tag("b")))
        self.makes(cut(tree, 4), tag("a", tag("b")), tag("a"), text("x"), tag("a", tag("b")))
        self.makes(cut(tree, 6), tag("a", tag("b")), tag("a", tag("b")), text("x"))
        self.makes(cut(tree, 7), tag("a", tag("b")), tag("a", tag("b")), text("x"), tag("a"))


class SetText(Deeds):
    TREE = page(text("v"), tag("a", text("x"), tag("b"), worths=(("k", "1"),)), text("w"))

    def test_in_the_place_of_all_children(self):
        for signs in ("y", " ", "\n"):
            self.makes(set_text(self.TREE, 2, signs), text("v"), tag("a", text(signs), worths=(("k", "1"),)),
                       text("w"))

    def test_what_looks_like_tags(self):
        for signs in ("<b>", "</a>", "<b></b>x", "&lt;", "&amp;", "</script>", "<script>", '<a x="1">', "&"):
            self.makes(set_text(self.TREE, 2, signs), text("v"), tag("a", text(signs), worths=(("k", "1"),)),
                       text("w"))
            self.assertEqual(len(nodes_of(set_text(self.TREE, 0, signs))), 2)

    def test_no_signs(self):
        self.makes(set_text(self.TREE, 2, ""), text("v"), tag("a", worths=(("k", "1"),)), text("w"))
        self.makes(set_text(self.TREE, 4, ""), *self.TREE[3])
        self.makes(set_text(self.TREE, 0, ""))

    def test_a_tag_without_children(self):
        self.makes(set_text(self.TREE, 4, "y"), text("v"), tag("a", text("x"), tag("b", text("y")),
                                                               worths=(("k", "1"),)), text("w"))

    def test_the_page(self):
        self.makes(set_text(self.TREE, 0, "<y>"), text("<y>"))

    def test_scripts(self):
        tree = page(tag("script", text("x")), tag("script"))
        for signs in ("say 1\n<b>&lt;", "</script", "</script >", "<script>"):
            self.makes(set_text(tree, 1, signs), tag("script", text(signs)), tag("script"))
            self.makes(set_text(tree, 3, signs), tag("script", text("x")), tag("script", text(signs)))
        self.makes(set_text(tree, 1, ""), tag("script"), tag("script"))


class AllDeeds(Deeds):
    def told(self, tree):
        """What each deed tells at that tree of one tag with a text and a worth ahead of a text."""
        return [put_worth(tree, 1, "x", "1"), drop_worth(tree, 1, "w"), put(tree, 1, 0, '<b x="1">y'), cut(tree, 2),
                set_text(tree, 1, "z"), cut(tree, 3)]

    def is_tuples(self, node):
        self.assertIs(type(node), tuple)
        if node[0] == "tag":
            self.assertEqual([type(part) for part in node], [str, str, tuple, tuple])
            for worth in node[2]:
                self.assertEqual((type(worth), [type(part) for part in worth]), (tuple, [str, str]))
            for child in node[3]:
                self.is_tuples(child)

    def test_tuples_through_and_through(self):
        for tree in self.told(page(tag("a", text("x"), worths=(("w", "1"),)), text("y"))):
            self.is_tuples(tree)

    def test_a_tree_is_as_it_was(self):
        tree = page(tag("a", text("x"), worths=(("w", "1"),)), text("y"))
        before = repr(tree)
        first = self.told(tree)
        self.assertEqual(repr(tree), before)
        self.assertEqual(self.told(tree), first)

    def test_by_names(self):
        tree = page(tag("a", text("x"), worths=(("w", "1"),)))
        self.assertEqual(put_worth(value="2", name="w", node=1, tree=tree), page(tag("a", text("x"),
                                                                                     worths=(("w", "2"),))))
        self.assertEqual(drop_worth(name="w", node=1, tree=tree), page(tag("a", text("x"))))
        self.assertEqual(put(text="y", at=1, node=0, tree=tree), page(*tree[3], text("y")))
        self.assertEqual(cut(node=1, tree=tree), page())
        self.assertEqual(set_text(text="y", node=0, tree=tree), page(text("y")))

    def test_any_deeds_one_behind_the_other(self):
        chance = random.Random(11)
        for signs in chance_texts(400, 25):
            tree = read(signs)
            for _ in range(8):
                tree = self.one_deed(chance, tree)

    def one_deed(self, chance, tree):
        node = chance.randint(-1, len(nodes_of(tree)))
        signs = "".join(chance.choices(PIECES, k=chance.randint(0, 5)))
        name = chance.choice(("x", "y", "x", "-x"))
        name, *told = chance.choice((("put_worth", name, signs), ("drop_worth", name), ("cut",), ("set_text", signs),
                                     ("put", chance.randint(-1, 4), signs)))
        before = repr(tree)
        new = outcome(getattr(trees, name), tree, node, *told)
        self.assertEqual(new, plain_outcome(name, tree, node, *told), (tree, name, node, told))
        self.assertEqual(repr(tree), before)
        if new[0] != "tag":
            return tree
        self.assertIs(is_whole(new), True)
        self.assertEqual(read(written(new)), new)
        return new


if __name__ == "__main__":
    unittest.main()
