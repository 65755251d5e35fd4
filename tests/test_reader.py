import unittest

from freshpage.reader import read
from shapes import page, tag, text


class Reads(unittest.TestCase):
    def reads(self, signs, *children):
        self.assertEqual(read(signs), page(*children), signs)

    def is_text(self, signs):
        self.reads(signs, text(signs))


class Tags(Reads):
    def test_no_signs(self):
        self.reads("")

    def test_a_text(self):
        self.is_text("a b\n\nc")
        self.is_text("\n")

    def test_tags_in_one_another(self):
        self.reads("<a><b></b><c></c></a>", tag("a", tag("b"), tag("c")))
        self.reads("x<a>y<a>z</a></a>w", text("x"), tag("a", text("y"), tag("a", text("z"))), text("w"))

    def test_names(self):
        self.reads("<abcdefghijkl></abcdefghijkl><a-></a->", tag("abcdefghijkl"), tag("a-"))

    def test_tags_open_at_the_end(self):
        self.reads("<a><b>x", tag("a", tag("b", text("x"))))
        self.reads("<a></a><b>", tag("a"), tag("b"))

    def test_a_tag_within_the_page_named_page(self):
        self.reads("<page>x</page>y</page>z", tag("page", text("x")), text("yz"))
        self.reads('<page a="b"><page></page></page>', tag("page", tag("page"), worths=(("a", "b"),)))


class Worths(Reads):
    def test_one_and_several(self):
        self.reads('<a x="1">', tag("a", worths=(("x", "1"),)))
        self.reads('<a z="1" y="2" x-y="3"></a>', tag("a", worths=(("z", "1"), ("y", "2"), ("x-y", "3"))))

    def test_of_no_signs(self):
        self.reads('<a x="">', tag("a", worths=(("x", ""),)))
        self.reads('<a x="" y="">', tag("a", worths=(("x", ""), ("y", ""))))

    def test_of_any_signs(self):
        for signs in ("\n", "<", ">", "<b>", "</a>", "a>b", " ", "=", "'", "a\n<b c=d>\n&", "</script>"):
            self.reads(f'<a x="{signs}">y', tag("a", text("y"), worths=(("x", signs),)))

    def test_the_first_of_one_name_counts(self):
        self.reads('<a x="1" y="2" x="3" y="4">', tag("a", worths=(("x", "1"), ("y", "2"))))
        self.reads('<a x="" x="3">', tag("a", worths=(("x", ""),)))
        self.reads('<a x="1" x="1">', tag("a", worths=(("x", "1"),)))

    def test_names(self):
        self.reads('<a abcdefghijkl="1">', tag("a", worths=(("abcdefghijkl", "1"),)))


class Broken(Reads):
    """A begin or an end that is not quite written so is text."""

    def test_begins(self):
        for signs in ("<", "<>", "< a>", "<a >", "<a", "<a\n>", "<A>", "<1>", "<-a>", "<a/>", "<a_b>", "<a<", "<aB>",
                      "<abcdefghijklm>", "a<", "a<b c"):
            self.is_text(signs)

    def test_begins_with_worths(self):
        for signs in ('<a  x="1">', '<a x="1"  y="2">', '<a x="1" >', '<a x="1"y="2">', '<a x = "1">', "<a x='1'>",
                      "<a x=1>", '<a x="1>', '<a x=1">', '<a x>', '<a X="1">', '<a 1="1">', '<a -x="1">', '<a ="1">',
                      '<a\nx="1">', '<a abcdefghijklm="1">', '<a x="1"', '<a x="1', '<a x="', '<a x=', '<a x', '<a ',
                      '<a x="1""2">', '<a x="1"/>', 'b<a x="1" y>c'):
            self.is_text(signs)

    def test_ends(self):
        for signs in ("</", "</>", "</ a>", "</a >", "</a", "</A>", "</1>", "</-a>", "< /a>", "</a/>", "<//a>",
                      "</abcdefghijklm>", '</a x="1">', "</a\n>", "/a>"):
            self.reads("<a>" + signs, tag("a", text(signs)))

    def test_what_stands_behind_is_read_on(self):
        self.reads("<<a>", text("<"), tag("a"))
        self.reads("<a<b>", text("<a"), tag("b"))
        self.reads("<a  <b>x", text("<a  "), tag("b", text("x")))
        self.reads('<a x="<b>', text('<a x="'), tag("b"))
        self.reads('<a x="<b y="1">', text('<a x="'), tag("b", worths=(("y", "1"),)))
        self.reads('<a x="&lt;', text('<a x="<'))
        self.reads("<a></a</a>", tag("a", text("</a")))
        self.reads("<abcdefghijklm><b>", text("<abcdefghijklm>"), tag("b"))
        self.reads("</abcdefghijklm></x>y", text("</abcdefghijklm>y"))


class Ends(Reads):
    def test_the_innermost_of_the_name_ends(self):
        self.reads("<a><a></a>x", tag("a", tag("a"), text("x")))

    def test_an_end_of_several_tags(self):
        self.reads("<a><b><c>x</a>y", tag("a", tag("b", tag("c", text("x")))), text("y"))
        self.reads("<b><a><b><c></b>x</a>y", tag("b", tag("a", tag("b", tag("c")), text("x")), text("y")))

    def test_an_end_of_what_is_not_open(self):
        self.reads("</a>")
        self.reads("x</a>y", text("xy"))
        self.reads("x</b></c>y</d>", text("xy"))
        self.reads("<a>x</b>y</a>", tag("a", text("xy")))
        self.reads("<a></a></a>x", tag("a"), text("x"))
        self.reads("<a><b></a></b>x", tag("a", tag("b")), text("x"))

    def test_an_end_of_the_page(self):
        self.reads("</page>")
        self.reads("x</page>y", text("xy"))
        self.reads("<a>x</page>y", tag("a", text("xy")))

    def test_an_end_of_a_script_where_none_is_open(self):
        self.reads("x</script>y", text("xy"))
        self.reads("<a>x</script>y", tag("a", text("xy")))


class WrittenSigns(Reads):
    def test_in_texts(self):
        self.reads("&lt;a&gt; &amp; &quot;", text('<a> & "'))
        self.reads("<a>&lt;</a>&lt;/a>", tag("a", text("<")), text("</a>"))

    def test_in_worths(self):
        self.reads('<a x="&lt;&gt;&amp;&quot;">', tag("a", worths=(("x", '<>&"'),)))

    def test_they_are_read_once(self):
        self.reads("&amp;lt;", text("&lt;"))
        self.reads('<a x="&amp;quot;">', tag("a", worths=(("x", "&quot;"),)))

    def test_they_stand_in_no_tag(self):
        for signs, plain in (("&lt;a>", "<a>"), ("<a&gt;", "<a>"), ("<a x=&quot;1&quot;>", '<a x="1">')):
            self.reads(signs, text(plain))

    def test_only_beside_one_another_in_the_text_that_is_read(self):
        self.reads("&l</b>t;", text("&lt;"))
        self.reads("&amp</page>;", text("&amp;"))
        self.reads("&<b>lt;", text("&"), tag("b", text("lt;")))
        self.reads("&a<b></b>mp;", text("&a"), tag("b"), text("mp;"))
        self.reads('<a x="&">lt;', tag("a", text("lt;"), worths=(("x", "&"),)))

    def test_broken(self):
        for signs in ("&", "&lt", "lt;", "& lt;", "&LT;", "&lt ;", "&apos;", "&;", "&l&t;"):
            self.is_text(signs)
            self.reads(f'<a x="{signs}">', tag("a", worths=(("x", signs),)))


class Scripts(Reads):
    def test_of_no_signs(self):
        self.reads("<script></script>x", tag("script"), text("x"))
        self.reads("<script>", tag("script"))

    def test_signs_as_they_stand(self):
        for signs in ("say 1", "\n a\n\n", "<b>x</b>", "</page>", "&lt;&amp;", "</script", "</script >", "<script>",
                      "<", '"', "<!-- -->", "</scrip</scrip"):
            self.reads(f"<script>{signs}</script>x", tag("script", text(signs)), text("x"))

    def test_none_to_end_it(self):
        self.reads("<script>a<b></b>", tag("script", text("a<b></b>")))
        self.reads("<a><script>x</a>", tag("a", tag("script", text("x</a>"))))

    def test_the_first_end_ends_it(self):
        self.reads("<script><script>x</script>y</script>z", tag("script", text("<script>x")), text("yz"))

    def test_worths(self):
        self.reads('<script name="a&lt;" name="b">x</script>', tag("script", text("x"), worths=(("name", "a<"),)))

    def test_within_others(self):
        self.reads("<a><script>x</script>y</a>", tag("a", tag("script", text("x")), text("y")))
        self.reads("x<script>y</script>z", text("x"), tag("script", text("y")), text("z"))

    def test_a_like_name_is_none(self):
        self.reads("<script-a><b></script-a>", tag("script-a", tag("b")))


if __name__ == "__main__":
    unittest.main()
