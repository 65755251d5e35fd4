import unittest

from freshpage.reader import read
from freshpage.writer import is_whole, written
from shapes import page, tag, text


class Written(unittest.TestCase):
    def test_the_page(self):
        self.assertEqual(written(page()), "")
        self.assertEqual(written(page(text("a"), tag("b"), text("c"))), "a<b></b>c")

    def test_tags(self):
        self.assertEqual(written(page(tag("a", tag("b", text("x")), tag("c")))), "<a><b>x</b><c></c></a>")
        self.assertEqual(written(page(tag("page", tag("page")))), "<page><page></page></page>")

    def test_worths(self):
        worths = (("x", "1"), ("b", ""), ("a", "\n"))
        self.assertEqual(written(page(tag("a", worths=worths))), '<a x="1" b="" a="\n"></a>')

    def test_signs_of_texts(self):
        self.assertEqual(written(page(text("<&>\"\n&lt;"))), "&lt;&amp;>\"\n&amp;lt;")

    def test_signs_of_worths(self):
        tree = page(tag("a", worths=(("x", "<&>\"&quot;"),)))
        self.assertEqual(written(tree), '<a x="&lt;&amp;>&quot;&amp;quot;"></a>')

    def test_scripts(self):
        signs = "<b>&lt;&\"</b>\n</script"
        tree = page(tag("script", text(signs), worths=(("x", "&"),)), text("&"))
        self.assertEqual(written(tree), f'<script x="&amp;">{signs}</script>&amp;')
        self.assertEqual(written(page(tag("script"))), "<script></script>")

    def test_whole_trees_are_read_again_the_same(self):
        trees = [
            page(), page(text("\n")), page(text("&l"), tag("a"), text("t;")), page(text("<a>&amp;lt;")),
            page(tag("a", worths=(("b", '">'), ("a", "</a>\n&gt;"))), text('"')),
            page(tag("page", tag("a", tag("a", text("</a>"))), worths=(("x", "<page>"),)), tag("page")),
            page(tag("b", tag("script", text("</script")), text(">"), tag("script"), tag("script", text("<script>")))),
        ]
        for tree in trees:
            self.assertIs(is_whole(tree), True)
            self.assertEqual(read(written(tree)), tree)

    def test_what_is_read_and_written(self):
        self.assertEqual(written(read('x</b>y<a x="1" x="2"><b>&gt;</a></c>z')), 'xy<a x="1"><b>></b></a>z')


class IsWhole(unittest.TestCase):
    def is_not(self, tree):
        self.assertIs(is_whole(tree), False, tree)

    def is_not_at_any_depth(self, *nodes):
        self.is_not(page(*nodes))
        self.is_not(page(text("x"), tag("a", *nodes), tag("b")))
        self.is_not(page(tag("a", tag("b"), tag("page", text("y"), tag("c", *nodes), worths=(("x", ""),)))))

    def test_whole(self):
        twice = (("x", "1"), ("y", "1"))
        for tree in (page(), page(text(" ")), page(tag("a", worths=twice), tag("a", worths=twice)),
                     page(text("a"), tag("b"), text("a")), page(tag("page", worths=(("x", "1"),))),
                     page(tag("script")), page(tag("script", text("</script")), tag("script", text("<a>"))),
                     page(tag("a", text("</script>"), worths=(("x", "</script>"),)))):
            self.assertIs(is_whole(tree), True, tree)

    def test_the_outermost_node(self):
        self.is_not(text("page"))
        self.is_not(text(""))
        self.is_not(tag("a"))
        self.is_not(tag("script"))
        self.is_not(tag("page", worths=(("x", "1"),)))
        self.is_not(tag("page", text("x"), worths=(("x", ""),)))

    def test_texts_without_signs(self):
        self.is_not_at_any_depth(text(""))
        self.is_not_at_any_depth(tag("d"), text(""), tag("d"))
        self.is_not_at_any_depth(tag("script", text("")))

    def test_neighbour_texts(self):
        self.is_not_at_any_depth(text("x"), text("y"))
        self.is_not_at_any_depth(tag("d"), text("x"), text("x"), tag("d"))
        self.is_not_at_any_depth(tag("d"), tag("d"), text("x"), text("\n"))

    def test_two_worths_of_one_name(self):
        self.is_not_at_any_depth(tag("d", worths=(("x", "1"), ("x", "2"))))
        self.is_not_at_any_depth(tag("d", worths=(("x", "1"), ("x", "1"))))
        self.is_not_at_any_depth(tag("d", worths=(("x", "1"), ("y", "2"), ("x", "3"))))
        self.is_not_at_any_depth(tag("script", worths=(("x", ""), ("x", ""))))

    def test_scripts(self):
        self.is_not_at_any_depth(tag("script", tag("d")))
        self.is_not_at_any_depth(tag("script", text("x"), tag("d")))
        self.is_not_at_any_depth(tag("script", tag("script", text("x"))))
        self.is_not_at_any_depth(tag("script", text("x"), text("y")))
        self.is_not_at_any_depth(tag("script", text("</script>")))
        self.is_not_at_any_depth(tag("script", text("x</script>\ny"), worths=(("x", ""),)))


if __name__ == "__main__":
    unittest.main()
