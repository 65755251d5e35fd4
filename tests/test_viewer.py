import unittest

from freshpage.errors import NoMark, NoNode, NoPlace, NoProperty, NotFormed, NotTag, NoWidth, TooLarge
from freshpage.events import fired
from freshpage.reader import read, stretches
from freshpage.rooms import WIDTH
from freshpage.styles import PROPERTIES
from freshpage.viewer import Viewer
from freshpage.writer import written
from viewing import all_of

PAGE = '<p id="a">x &lt; <b>y</b></p>z'


class Viewing(unittest.TestCase):
    def refused(self, error, viewer, name, *told, most=None, **more):
        before = all_of(viewer)
        viewer.news()
        with self.assertRaises(error) as caught:
            getattr(viewer, name)(*told, **more)
        self.assertIs(type(caught.exception), error)
        if most is not None:
            self.assertEqual(caught.exception.most, most)
        self.assertEqual(all_of(viewer), before)
        self.assertEqual(viewer.news(), [])

    def too_large(self, most, make):
        with self.assertRaises(TooLarge) as caught:
            make()
        self.assertEqual(caught.exception.most, most)


class Making(Viewing):
    def test_it_has_what_it_was_made_of(self):
        viewer = Viewer(PAGE, looks="p { pad: 1 }", width=9)
        self.assertEqual((viewer.text(), viewer.looks(), viewer.width(), viewer.tree()), (PAGE, "p { pad: 1 }", 9, read(PAGE)))
        viewer = Viewer(width=9, looks="x", text="")
        self.assertEqual((viewer.text(), viewer.looks(), viewer.width()), ("", "x", 9))
        viewer = Viewer("</p>")
        self.assertEqual((viewer.text(), viewer.looks(), viewer.width()), ("</p>", "", WIDTH))
        with self.assertRaises(TypeError):
            Viewer("", "")

    def test_a_text_too_large(self):
        Viewer("x" * 4000)
        Viewer("<b></b>" * 119)
        Viewer("<b>" * 18 + "x")
        Viewer("<b>" * 19)
        for most, text in ((4000, "x" * 4001), (4000, "<b></b>" * 1000), (120, "<b></b>" * 120), (20, "<b>" * 20),
                           (20, "<b>" * 19 + "x"), (120, "<b>" * 120), (4000, "<b>" * 1334)):
            self.too_large(most, lambda: Viewer(text))

    def test_looks_too_large(self):
        Viewer("", looks="\n" * 59)
        Viewer("", looks="x" * 4000)
        for most, looks in ((60, "\n" * 60), (4000, "x" * 4001), (60, "\n" * 5000), (4000, "\n" * 59 + "x" * 3942)):
            self.too_large(most, lambda: Viewer("", looks=looks))

    def test_widths(self):
        for width in (1, 2, 119, 120):
            self.assertEqual(Viewer("a", width=width).width(), width)
        for width in (0, 121, -1, 10 ** 19, -10 ** 19):
            with self.assertRaises(NoWidth):
                Viewer("a", width=width)

    def test_in_this_order(self):
        self.too_large(4000, lambda: Viewer("<b>" * 1334, looks="\n" * 5000, width=0))
        self.too_large(120, lambda: Viewer("<b>" * 120, looks="\n" * 60, width=0))
        self.too_large(20, lambda: Viewer("<b>" * 20, looks="\n" * 60, width=0))
        self.too_large(60, lambda: Viewer("", looks="\n" * 60, width=0))
        self.too_large(4000, lambda: Viewer("", looks="x" * 4001, width=0))


class Asks(Viewing):
    def test_styles_rooms_and_stretches(self):
        viewer = Viewer(PAGE, looks="b { color: red }", width=9)
        self.assertEqual(viewer.style(3)[PROPERTIES.index("color")], "red")
        self.assertEqual(viewer.style(4), ("left", "clear", "0", "red", "inline", "0", "no", "0", "0", "0", "0", "auto"))
        self.assertEqual([viewer.room(node) for node in range(6)],
                         [(0, 0, 9, 2), (0, 0, 9, 1), (0, 0, 4, 1), (4, 0, 1, 1), (4, 0, 1, 1), (0, 1, 1, 1)])
        self.assertEqual([viewer.stretch(node) for node in range(6)], stretches(PAGE))
        self.assertIsNone(Viewer("<b></b>").room(1))

    def test_leads(self):
        viewer = Viewer(PAGE, looks="b { color: red }")
        self.assertEqual(viewer.lead(3, "color"), ("row", 0, 0))
        self.assertEqual(viewer.lead(name="color", node=4), ("parent", 3))
        self.assertEqual(viewer.lead(1, "pad"), ("plain",))

    def test_no_node(self):
        viewer = Viewer(PAGE)
        for node in (-1, 6, 10 ** 19, -10 ** 19):
            for name in ("style", "room", "stretch"):
                self.refused(NoNode, viewer, name, node)
            for name in ("color", "none", ""):
                self.refused(NoNode, viewer, "lead", node, name)

    def test_no_property(self):
        viewer = Viewer(PAGE)
        for name in ("", "colour", "Color", "a", "pad "):
            for node in range(6):
                self.refused(NoProperty, viewer, "lead", node, name)

    def test_the_board_hits_and_cell_leads(self):
        viewer = Viewer("a<b>&lt;</b>", looks="b { back: red }", width=3)
        self.assertEqual(viewer.board(), [[("a", "black", "clear"), ("<", "black", "red"), (" ", "black", "clear")]])
        self.assertEqual([viewer.hit(x, 0) for x in range(3)], [0, 2, 0])
        self.assertEqual([viewer.cell_lead(x, 0) for x in range(3)], [(1, (0, 1)), (3, (4, 8)), None])
        for x, y in ((-1, 0), (3, 0), (0, 1), (0, -1), (10 ** 19, 0)):
            self.assertIsNone(viewer.hit(x, y))
            self.assertIsNone(viewer.cell_lead(x, y))
        self.assertEqual((viewer.hit(y=0, x=1), viewer.cell_lead(y=0, x=1)), (2, (3, (4, 8))))

    def test_told_boards_are_the_askers_own(self):
        viewer = Viewer("ab", width=2)
        for _ in range(2):
            told = viewer.board()
            self.assertEqual(told, [[("a", "black", "clear"), ("b", "black", "clear")]])
            told[0][0] = None
            told.append([])
        self.assertEqual(viewer.news(), [])
        viewer.set_text(0, "b")
        told = viewer.board()
        told.clear()
        self.assertEqual(viewer.news(), [(0, 0), (1, 0)])


class Edits(Viewing):
    def test_edits(self):
        viewer = Viewer("a<b>c</b>")
        viewer.edit(1, 3, "")
        self.assertEqual((viewer.text(), viewer.tree()), ("ac</b>", read("ac</b>")))
        viewer.edit(text="<p>", many=0, at=0)
        self.assertEqual((viewer.text(), viewer.tree()), ("<p>ac</b>", read("<p>ac</b>")))
        viewer.edit(0, 9, "x")
        viewer.edit(1, 0, "y")
        self.assertEqual(viewer.text(), "xy")
        viewer.edit(2, 0, "")
        viewer.edit(0, 2, "")
        self.assertEqual((viewer.text(), viewer.tree()), ("", ("tag", "page", (), ())))

    def test_no_place(self):
        viewer = Viewer("abc")
        for at, many in ((-1, 0), (0, -1), (-1, 1), (4, 0), (3, 1), (0, 4), (2, 2), (10 ** 19, 0), (0, 10 ** 19), (4, -1),
                         (-1, 4), (10 ** 19, -10 ** 19)):
            for text in ("", "x", "x" * 8000):
                self.refused(NoPlace, viewer, "edit", at, many, text)
        viewer.edit(3, 0, "")
        viewer.edit(0, 3, "abc")

    def test_too_large(self):
        viewer = Viewer("abc")
        viewer.edit(0, 3, "x" * 4000)
        self.refused(TooLarge, viewer, "edit", 0, 0, "x", most=4000)
        viewer.edit(0, 1, "y")
        viewer = Viewer("abc")
        for most, text in ((4000, "x" * 3998), (4000, "x" * 8000), (4000, "<b>" * 1400), (120, "<b>" * 130), (120, "<b></b>" * 119),
                           (20, "<b>" * 20), (20, "<b>" * 19)):
            self.refused(TooLarge, viewer, "edit", 0, 0, text, most=most)
        viewer.edit(0, 3, "<b>" * 19)

    def test_an_edit_that_leaves_the_tree(self):
        viewer = Viewer("a<b>c</b>")
        viewer.edit(9, 0, "</p>")
        self.assertEqual((viewer.text(), viewer.tree()), ("a<b>c</b></p>", read("a<b>c</b>")))
        self.assertEqual(viewer.stretch(0), (0, 13))
        self.assertEqual(viewer.news(), [])


class Deeds(Viewing):
    def test_the_text_is_the_tree_written(self):
        viewer = Viewer("a<b>c > d")
        viewer.put_worth(2, "x", "y")
        self.assertEqual(viewer.text(), 'a<b x="y">c > d</b>')
        viewer.drop_worth(2, "x")
        viewer.put(2, 1, "<i>e")
        self.assertEqual(viewer.text(), "a<b>c > d<i>e</i></b>")
        viewer.cut(4)
        viewer.set_text(2, "f<")
        self.assertEqual(viewer.text(), "a<b>f&lt;</b>")
        self.assertEqual(viewer.tree(), read(viewer.text()))

    def test_by_names(self):
        viewer = Viewer("a<b>c")
        viewer.put_worth(value="y", name="x", node=2)
        viewer.put(text="d", at=0, node=2)
        self.assertEqual(viewer.text(), 'a<b x="y">dc</b>')
        viewer.drop_worth(name="x", node=2)
        viewer.set_text(text="", node=2)
        viewer.cut(node=1)
        self.assertEqual(viewer.text(), "<b></b>")
        viewer.set_looks(looks="x")
        viewer.resize(width=3)
        self.assertEqual((viewer.looks(), viewer.width()), ("x", 3))
        self.assertEqual(viewer.fire(node=1, kind="click"), [])
        self.assertEqual(viewer.fire(sign="x", node=1, kind="key"), [])
        self.assertEqual(viewer.mark(), 0)
        viewer.undo(mark=0)

    def test_a_deed_that_leaves_the_tree_leaves_the_text(self):
        text = 'a<b x="y">c</p>d'
        viewer = Viewer(text)
        viewer.put_worth(2, "x", "y")
        viewer.drop_worth(2, "z")
        viewer.put(2, 0, "")
        viewer.put(2, 1, "</b>")
        viewer.set_text(2, "cd")
        self.assertEqual(viewer.fire("click", 2), [])
        self.assertEqual(viewer.text(), text)

    def test_an_event_that_leaves_the_tree_leaves_the_text(self):
        text = '</x><p on-click="x">a > b<script name="x">mark this k 1\nunmark this k\nsay worth this k'
        viewer = Viewer(text)
        self.assertEqual(viewer.fire("click", 1), [("run", "x", "on", 1), ("say", "")])
        self.assertEqual(viewer.text(), text)
        viewer = Viewer(text.replace("unmark this k", ""))
        viewer.fire("click", 1)
        self.assertEqual(viewer.text(), written(viewer.tree()))

    def test_refusals(self):
        viewer = Viewer('<p id="a">b</p><script>c</script>')
        for node in (-1, 5, 10 ** 19):
            for deed in (("put_worth", "Bad", "y"), ("drop_worth", "Bad"), ("put", 9, "<b>" * 30), ("cut",), ("set_text", "x" * 4001)):
                self.refused(NoNode, viewer, deed[0], node, *deed[1:])
        for deed in (("put_worth", 2, "Bad", "y"), ("put_worth", 0, "Bad", "y"), ("drop_worth", 0, "x"), ("put", 3, 9, "x"),
                     ("put", 2, 9, "x"), ("cut", 0), ("set_text", 2, "x")):
            self.refused(NotTag, viewer, *deed)
        for at in (-1, 2, 10 ** 19):
            self.refused(NoNode, viewer, "put", 1, at, "<b>" * 130)
        self.refused(NotFormed, viewer, "put_worth", 1, "Bad", "x" * 4000)
        self.refused(NotFormed, viewer, "drop_worth", 1, "")
        self.refused(NotFormed, viewer, "set_text", 3, "</script>" + "x" * 4000)
        self.refused(TooLarge, viewer, "put", 1, 0, "<b>" * 130, most=120)
        self.refused(TooLarge, viewer, "put", 1, 0, "<b>" * 30, most=20)
        self.refused(TooLarge, viewer, "set_text", 1, "x" * 4000, most=4000)
        self.refused(TooLarge, viewer, "put_worth", 1, "x", "y" * 4000, most=4000)

    def test_a_text_that_is_written_with_too_many_signs(self):
        viewer = Viewer("<b>" + "<" * 3000)
        for deed in (("put_worth", 1, "x", "y"), ("drop_worth", 1, "x"), ("put", 1, 0, "")):
            self.refused(TooLarge, viewer, *deed, most=4000)
        viewer.set_text(1, "x")
        self.assertEqual(viewer.text(), "<b>x</b>")

    def test_looks_and_width(self):
        viewer = Viewer("<p>ab", width=2)
        viewer.set_looks("\n" * 59)
        self.refused(TooLarge, viewer, "set_looks", "\n" * 60, most=60)
        self.refused(TooLarge, viewer, "set_looks", "x" * 4001, most=4000)
        self.refused(TooLarge, viewer, "set_looks", "\n" * 4001, most=60)
        viewer.set_looks("x" * 4000)
        viewer.set_looks("p { color: red }")
        self.assertEqual(viewer.board(), [[("a", "red", "clear"), ("b", "red", "clear")]])
        for width in (0, 121, -5, 10 ** 19):
            self.refused(NoWidth, viewer, "resize", width)
        for width in (1, 120):
            viewer.resize(width)
            self.assertEqual((viewer.width(), len(viewer.board()[0])), (width, width))


class Fires(Viewing):
    def test_the_outcome(self):
        text = '<field on-key="x">a</field><script name="x">say sign & wide this</script>'
        viewer = Viewer(text, looks="field { display: block }", width=7)
        told = fired(read(text), viewer.looks(), "key", 1, sign="b", width=7)
        self.assertEqual(viewer.fire("key", 1, sign="b"), told[1])
        self.assertEqual(told[1], [("run", "x", "on", 1), ("say", "b7"), ("own", "key", 1)])
        self.assertEqual((viewer.tree(), viewer.text()), (told[0], text.replace("a<", "ab<")))
        self.assertEqual(viewer.fire("key", 1)[1], ("say", "7"))
        with self.assertRaises(TypeError):
            viewer.fire("key", 1, "b")

    def test_refused(self):
        viewer = Viewer("<p>a")
        for node in (-1, 3, 10 ** 19):
            self.refused(NoNode, viewer, "fire", "Bad", node, sign="xx")
        self.refused(NotTag, viewer, "fire", "Bad", 2, sign="xx")
        self.refused(NotFormed, viewer, "fire", "Bad", 1)
        self.refused(NotFormed, viewer, "fire", "", 1)
        self.refused(NotFormed, viewer, "fire", "click", 0, sign="xx")
        self.assertEqual(viewer.fire("click", 0, sign="\n"), [])

    def test_told_lists_are_the_askers_own(self):
        viewer = Viewer("<check>a")
        viewer.fire("click", 1).clear()
        self.assertEqual(viewer.fire("click", 1), [("own", "click", 1)])
        self.assertEqual(viewer.text(), "<check>a</check>")

    def test_rooms_amid_are_those_of_the_present_width_and_looks(self):
        viewer = Viewer('<p on-go="x">a</p><script name="x">say wide this\nmark this look "pad: 1"\nsay high this</script>', width=9)
        self.assertEqual(viewer.fire("go", 1)[1:], [("say", "9"), ("say", "3")])
        viewer.resize(5)
        viewer.set_looks("p { margin: 1; border: 1 }")
        self.assertEqual(viewer.fire("go", 1)[1:], [("say", "4"), ("say", "5")])


class Marks(Viewing):
    def test_undone(self):
        viewer = Viewer("a", width=9)
        self.assertEqual(viewer.mark(), 0)
        viewer.edit(1, 0, "</p>")
        viewer.set_looks("x")
        self.assertEqual(viewer.mark(), 1)
        viewer.resize(3)
        viewer.set_text(0, "b")
        self.assertEqual(viewer.mark(), 2)
        viewer.undo(1)
        self.assertEqual((viewer.text(), viewer.looks(), viewer.width(), viewer.tree()), ("a</p>", "x", 9, read("a")))
        self.refused(NoMark, viewer, "undo", 2)
        viewer.undo(1)
        self.assertEqual(viewer.mark(), 2)
        viewer.undo(0)
        self.assertEqual((viewer.text(), viewer.looks(), viewer.width()), ("a", "", 9))
        self.refused(NoMark, viewer, "undo", 1)
        self.assertEqual(viewer.mark(), 1)

    def test_no_mark(self):
        viewer = Viewer("a")
        for mark in (0, -1, 1, 10 ** 19, -10 ** 19):
            self.refused(NoMark, viewer, "undo", mark)
        viewer.mark()
        for mark in (-1, 1, 2, 10 ** 19, -10 ** 19):
            self.refused(NoMark, viewer, "undo", mark)
        viewer.undo(0)

    def test_a_mark_stays(self):
        viewer = Viewer("a")
        viewer.mark()
        for text in ("b", "c", "d"):
            viewer.set_text(0, text)
            self.assertEqual(viewer.text(), text)
            viewer.undo(0)
            self.assertEqual(viewer.text(), "a")

    def test_many_marks_at_one_place(self):
        viewer = Viewer("a")
        self.assertEqual([viewer.mark() for _ in range(5)], [0, 1, 2, 3, 4])
        viewer.undo(3)
        self.assertEqual([viewer.mark(), viewer.mark()], [4, 5])

    def test_refused_deeds_leave_the_marks(self):
        viewer = Viewer("a")
        viewer.mark()
        self.refused(NoNode, viewer, "cut", 9)
        viewer.undo(0)
        self.assertEqual(viewer.mark(), 1)

    def test_events_are_undone(self):
        viewer = Viewer('<check on-click="x">a</check><script name="x">add this sign</script>')
        before = all_of(viewer)
        viewer.mark()
        viewer.fire("click", 1, sign="<")
        self.assertNotEqual(all_of(viewer), before)
        viewer.undo(0)
        self.assertEqual(all_of(viewer), before)


class News(Viewing):
    def test_behind_nothing(self):
        viewer = Viewer("a", width=2)
        self.assertEqual(viewer.news(), [])
        self.assertEqual(viewer.news(), [])

    def test_behind_a_deed_and_told_twice(self):
        viewer = Viewer("ab c", width=3)
        viewer.set_text(0, "ac b")
        self.assertEqual(viewer.news(), [(1, 0), (0, 1)])
        self.assertEqual(viewer.news(), [])

    def test_behind_a_deed_and_its_undoing(self):
        viewer = Viewer("a", width=3)
        viewer.mark()
        viewer.set_text(0, "b")
        viewer.undo(0)
        self.assertEqual(viewer.news(), [])
        viewer.set_text(0, "b")
        self.assertEqual(viewer.news(), [(0, 0)])
        viewer.undo(0)
        self.assertEqual(viewer.news(), [(0, 0)])

    def test_news_are_not_undone(self):
        viewer = Viewer("a", width=3)
        viewer.mark()
        viewer.set_text(0, "b")
        viewer.news()
        viewer.undo(0)
        self.assertEqual(viewer.news(), [(0, 0)])
        self.assertEqual(viewer.news(), [])

    def test_a_board_that_is_higher_lower_wider(self):
        viewer = Viewer("a", width=2)
        viewer.set_text(0, "a b c")
        self.assertEqual(viewer.news(), [(0, 1), (1, 1), (0, 2), (1, 2)])
        viewer.set_text(0, "a")
        self.assertEqual(viewer.news(), [(0, 1), (1, 1), (0, 2), (1, 2)])
        viewer.set_text(0, "")
        self.assertEqual(viewer.news(), [(0, 0), (1, 0)])
        viewer.set_text(0, "a b")
        viewer.news()
        viewer.resize(3)
        self.assertEqual(viewer.news(), [(2, 0), (0, 1), (1, 1)])

    def test_colors_and_backs(self):
        viewer = Viewer("<b>a</b>b", width=3)
        viewer.set_looks("b { color: red }")
        self.assertEqual(viewer.news(), [(0, 0)])
        viewer.set_looks("page { back: red }\nb { color: red }")
        self.assertEqual(viewer.news(), [(0, 0), (1, 0), (2, 0)])

    def test_told_lists_are_the_askers_own(self):
        viewer = Viewer("a", width=3)
        viewer.set_text(0, "b")
        viewer.news().append((9, 9))
        self.assertEqual(viewer.news(), [])

    def test_asks_bring_no_news(self):
        viewer = Viewer("a", width=3)
        viewer.set_text(0, "b")
        viewer.board()
        viewer.room(0)
        viewer.work()
        self.assertEqual(viewer.news(), [(0, 0)])


class Apart(Viewing):
    def test_two_viewers_have_nothing_together(self):
        one, other = Viewer("<p>a"), Viewer("<p>a")
        one.put_worth(1, "look", "color: red")
        one.set_looks("p { pad: 1 }")
        one.resize(5)
        one.mark()
        self.assertEqual((other.text(), other.looks(), other.width()), ("<p>a", "", 40))
        self.assertEqual(all_of(other), all_of(Viewer("<p>a")))
        self.refused(NoMark, other, "undo", 0)


if __name__ == "__main__":
    unittest.main()
