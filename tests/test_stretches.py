import unittest

from freshpage.reader import stretches


class Stretches(unittest.TestCase):
    def tells(self, signs, *parts):
        """The page's stretch, then those of these parts, each as it stands first, unless a place is told."""
        told = [(0, len(signs))]
        for part in parts:
            part, first = part if isinstance(part, tuple) else (part, signs.index(part))
            self.assertEqual(signs[first:first + len(part)], part)
            told.append((first, first + len(part)))
        self.assertEqual(stretches(signs), told, signs)

    def test_the_page(self):
        self.assertEqual(stretches(""), [(0, 0)])
        self.tells("</a>")
        self.tells("</page></page>")

    def test_an_end_of_its_own(self):
        self.tells("a<b>c</b>d", ("a", 0), "<b>c</b>", "c", "d")
        self.tells('<a x="1"><b></b></a>', '<a x="1"><b></b></a>', "<b></b>")

    def test_ended_by_another(self):
        self.tells("<a><b>x<c></a>y", "<a><b>x<c></a>", "<b>x<c>", "x", "<c>", "y")

    def test_open_at_the_end(self):
        self.tells("x<a>y<b>", "x", "<a>y<b>", "y", "<b>")

    def test_written_signs_at_the_ends(self):
        self.tells("&lt;a&amp;<b></b>&quot;", "&lt;a&amp;", "<b></b>", "&quot;")
        self.tells("<a>x&gt;</a>", "<a>x&gt;</a>", "x&gt;")

    def test_an_end_that_nothing_came_of(self):
        self.tells("x</b>y", "x</b>y")
        self.tells("</b>x</b>", "x")
        self.tells("<a></b>x</b></a>", "<a></b>x</b></a>", "x")
        self.tells("<a>x</b>&lt;</page></a>", "<a>x</b>&lt;</page></a>", "x</b>&lt;")
        self.tells("<a></b></a></b>x", "<a></b></a>", "x")

    def test_broken_tags(self):
        self.tells("<<a><b", ("<", 0), "<a><b", "<b")
        self.tells('a<b c="<d>', 'a<b c="', "<d>")

    def test_scripts(self):
        self.tells("<script>a<b>&lt;</script>c", "<script>a<b>&lt;</script>", "a<b>&lt;", ("c", 25))
        self.tells("<script></script>", "<script></script>")
        self.tells("<a><script>x</a>", "<a><script>x</a>", "<script>x</a>", "x</a>")

    def test_a_tag_named_page(self):
        self.tells("<page>x</page>y</page>", "<page>x</page>", "x", "y")

    def test_each_list_is_a_new_one(self):
        told = stretches("a<b>c")
        told.append((9, 9))
        told[0] = None
        self.assertEqual(stretches("a<b>c"), [(0, 5), (0, 1), (1, 5), (4, 5)])
        self.assertIs(type(told[1]), tuple)


if __name__ == "__main__":
    unittest.main()
