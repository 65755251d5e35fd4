import random
import unittest

from freshpage.errors import NoWidth, TooLarge
from freshpage.sessions import session
from freshpage.viewer import Viewer
from viewing import REFUSALS, chance_deed, chance_viewer


class Sessions(unittest.TestCase):
    def tells(self, text, rows, *told, **more):
        self.assertEqual(session(text, "\n".join(rows), **more), "\n".join(told), rows)

    def ends_with(self, text, rows, told, **more):
        """What the last row tells; the others are all done."""
        *ahead, last = session(text, "\n".join(rows), **more).split("\n")
        self.assertNotIn("?", ahead)
        self.assertEqual(last, told, rows)

    def is_no_row(self, row):
        self.tells("<p>a", [row], "?")


class Rows(Sessions):
    def test_edit(self):
        self.tells("abc", ["edit 1 1 x y", "board"], "ok", "ax yc     |", width=10)
        self.tells("abc", ["edit 1 1 ", "board"], "ok", "ac        |", width=10)
        self.tells("abc", ["edit 0 3 \\n<p>\\\\d", "board"], "ok", "\\d        |", width=10)
        for row in ("edit 1 1", "edit 1", "edit", "edit 1 x", "edit x 1 y", "edit  1 1 x", "edit 1  1 x", "edit 01 1 x",
                    "edit -0 1 x", "edit 1 +1 x", "edit 1234567890 1 x", "edit 1 1\tx", "Edit 1 1 x", " edit 1 1 x"):
            self.is_no_row(row)
        for row in ("edit 4 0 x", "edit -1 0 x", "edit 0 -1 x", "edit 0 5 x", "edit 123456789 0 x", "edit 0 -123456789 x"):
            self.tells("abc", [row], "NoPlace")
        self.tells("abc", ["edit 0 0 " + "x" * 4000, "edit 0 0 " + "<b>" * 20, "edit 0 3 " + "<b></b>" * 120], *["TooLarge"] * 3)

    def test_looks(self):
        self.ends_with("<p>a", ["looks p { width: 1 }\\np { border: 1 }", "board"], "### |#a# |### |", width=4)
        self.ends_with("<p>a", ["looks ", "board"], "a   |", width=4, looks="p { pad: 1 }")
        self.tells("<p>a", ["looks  ", "looks x"], "ok", "ok")
        for row in ("looks", "look x", "looks\tx"):
            self.is_no_row(row)
        self.tells("a", ["looks " + "\\n" * 60, "looks " + "\\n" * 59, "looks " + "x" * 4001], "TooLarge", "ok", "TooLarge")

    def test_width(self):
        self.ends_with("ab", ["width 1", "board"], "a|b|")
        self.tells("a", ["width 120", "width 121", "width 0", "width -1", "width 999999999"], "ok", *["NoWidth"] * 4)
        for row in ("width", "width ", "width x", "width 1 ", "width 1 1", "width  1", "width 01", "width 1234567890", "width 1.0"):
            self.is_no_row(row)

    def test_mark(self):
        self.ends_with("<p>a", ["mark 1 look border: 1; width: 1", "board"], "### |#a# |### |", width=4)
        self.tells("<p>a", ["mark 1 x ", "mark 1 x  y ", "mark 1 look \\n"], "ok", "ok", "ok")
        self.tells("<p>a", ["mark 9 Bad x", "mark -1 x y", "mark 2 Bad x", "mark 0 x y", "mark 1 Bad x", "mark 1 \" x",
                            "mark 1 x " + "y" * 4000], "NoNode", "NoNode", "NotTag", "NotTag", "NotFormed", "NotFormed", "TooLarge")
        for row in ("mark", "mark 1", "mark 1 x", "mark 1  x", "mark x 1 y", "mark  1 x y", "mark 1  ", "mark 01 x y"):
            self.is_no_row(row)

    def test_unmark(self):
        self.ends_with('<p look="pad: 1">a', ["unmark 1 look", "board"], "a   |", width=4)
        self.tells("<p>a", ["unmark 1 x", "unmark 9 x", "unmark 2 x", "unmark 0 x", "unmark 1 B"], "ok", "NoNode", "NotTag",
                   "NotTag", "NotFormed")
        for row in ("unmark", "unmark 1", "unmark 1 ", "unmark 1 x ", "unmark 1 x y", "unmark x 1", "unmark  1 x"):
            self.is_no_row(row)

    def test_put(self):
        self.ends_with("<p>a", ["put 1 0 <b>x</b> y", "board"], "x ya|", width=4)
        self.ends_with("<p>a", ["put 1 1 ", "board"], "a   |", width=4)
        self.tells("<p>a", ["put 9 0 x", "put 2 0 x", "put 1 2 x", "put 1 -1 x", "put 1 0 " + "<b>" * 19, "put 1 0 \\\\"], "NoNode",
                   "NotTag", "NoNode", "NoNode", "TooLarge", "ok")
        for row in ("put", "put 1", "put 1 0", "put 1 x y", "put x 1 y", "put 1  0 x", "put  1 0 x"):
            self.is_no_row(row)

    def test_cut(self):
        self.ends_with("<p>a</p>b", ["cut 1", "board"], "b   |", width=4)
        self.tells("<p>a", ["cut 9", "cut -1", "cut 0", "cut 2", "cut 2"], "NoNode", "NoNode", "NotTag", "ok", "NoNode")
        for row in ("cut", "cut ", "cut x", "cut 1 ", "cut 1 1", "cut  1"):
            self.is_no_row(row)

    def test_text(self):
        self.ends_with("<p>a</p>b", ["text 1 x  <y", "board"], "x <y|b   |", width=4)
        self.ends_with("<p>a</p>b", ["text 1 ", "board"], "b   |", width=4)
        self.tells("<p>a", ["text 9 x", "text 2 x", "text 1 " + "x" * 4000], "NoNode", "NotTag", "TooLarge")
        self.tells("<script>a", ["text 1 </script>", "text 1 say 1\\nsay 2"], "NotFormed", "ok")
        for row in ("text", "text 1", "text x y", "text  1 x"):
            self.is_no_row(row)

    def test_fire(self):
        page = '<field on-key="x">a</field><script name="x">say sign & "\\"\nsay 5\nsay ""\nsend go this\ncut #a</script>'
        self.tells(page, ["fire key 1 <"], "run x on 1 / say <\\\\ / say 5 / say  / fault x 4 / own key 1 / event go 1 /")
        self.tells(page, ["fire key 1 \\n"], "run x on 1 / say \\n\\\\ / say 5 / say  / fault x 4 / own key 1 / event go 1 /")
        self.tells(page, ["fire key 1 ", "fire none 1 ", "fire key 0 "],
                   "run x on 1 / say \\\\ / say 5 / say  / fault x 4 / own key 1 / event go 1 /", "", "")
        self.tells('<p on-go="">' + '<script name="">loop 20\nloop 20\nlet x 1\nend\nend</script>', ["fire go 1 "], "run  on 1 / far /")
        self.tells('<p on-go="a b">' + '<script name="a b"></script>', ["fire go 1 "], "run a b on 1 /")
        self.tells("<p>a", ["fire Bad 9 xx", "fire Bad 2 xx", "fire Bad 1 x", "fire go 1 xx", "fire go 1 \\\\", "fire go 1 \\\\n"],
                   "NoNode", "NotTag", "NotFormed", "NotFormed", "", "NotFormed")
        for row in ("fire", "fire go", "fire go 1", "fire 1 go ", "fire go x ", "fire  go 1 ", "fire go  1 ", "fire go 01 ",
                    "fire  1 x"):
            self.is_no_row(row)

    def test_keep_and_undo(self):
        self.tells("a", ["keep", "edit 0 1 b", "keep", "undo 0", "board", "undo 1", "keep", "undo -1", "undo 2", "undo 1"], "0", "ok",
                   "1", "ok", "a |", "NoMark", "1", "NoMark", "NoMark", "ok", width=2)
        for row in ("keep ", "keep 1", "undo", "undo ", "undo x", "undo 0 ", "undo 00", "undo 0 0"):
            self.is_no_row(row)

    def test_board(self):
        self.tells("a b", ["board"], "a|b|", width=1)
        self.tells("", ["board"], "", width=1)
        self.tells('a|<b look="back: red">|</b>', ["board"], "a|| |", width=4)
        for row in ("board ", "board 1", "Board", "boards"):
            self.is_no_row(row)

    def test_room(self):
        self.tells("<p>a", ["room 0", "room 1", "room 2", "room 3", "room -1"], "-3 4 9 1", "-3 4 9 1", "-3 4 1 1", "NoNode", "NoNode",
                   looks="page { right: -3; down: 4 }", width=9)
        self.tells("<b> </b>", ["room 1"], "none")
        for row in ("room", "room ", "room x", "room 1 ", "room 1 1", "room 01"):
            self.is_no_row(row)

    def test_hit(self):
        self.tells("<p>a", ["hit 0 0", "hit -1 0", "hit 0 1", "hit 123456789 -123456789"], "1", "none", "none", "none")
        for row in ("hit", "hit 0", "hit 0 ", "hit 0 x", "hit 0 0 ", "hit 0 0 0", "hit  0 0", "hit 0  0", "hit 00 0"):
            self.is_no_row(row)

    def test_news(self):
        self.tells("a", ["news", "edit 0 1 b", "news", "news", "width 3", "news"], "0", "ok", "1", "0", "ok", "1", width=2)
        for row in ("news ", "news 1"):
            self.is_no_row(row)

    def test_other_rows(self):
        for row in ("", " ", "x", "?", "style 1", "undo0", "mark1 x y", "\\n", "-"):
            self.is_no_row(row)
        self.tells("a", ["", "", "board", ""], "?", "?", "a|", "?", width=1)
        self.assertEqual(session("a", ""), "?")
        self.assertEqual(session("a", "\n"), "?\n?")


class Texts(Sessions):
    def test_backslashes(self):
        for said, told in (("\\n", "\n"), ("\\\\", "\\"), ("\\\\n", "\\n"), ("\\\\\\n", "\\\n"), ("\\\\\\\\", "\\\\"), ("a\\nb", "a\nb"),
                           ("\\n\\n", "\n\n"), ("n", "n"), ("\\n\\\\", "\n\\"), ("\\\\\\\\n", "\\\\n"), (" ", " "), ("", "")):
            page = f'<script on-go="" name="">say worth this k</script>'
            rows = [f"mark 1 k {said}", "fire go 1 "]
            self.tells(page, rows, "ok", f"run  on 1 / say {said} /")
            viewer = Viewer(page)
            viewer.put_worth(1, "k", told)
            self.assertEqual(viewer.fire("go", 1)[1], ("say", told))

    def test_single_ones(self):
        for said in ("\\", "a\\", "\\a", "\\N", "\\\\\\", "\\n\\", "\\ ", "\\\\\\a", "x\\\\\\", "\\<"):
            for row in ("edit 0 0 ", "looks ", "mark 1 k ", "put 1 0 ", "text 1 ", "fire go 1 "):
                self.is_no_row(row + said)

    def test_a_backslash_elsewhere(self):
        self.is_no_row("cut \\n")
        self.tells("<p>a", ["mark 1 \\ x", "fire \\n 1 ", "unmark 1 \\"], "NotFormed", "NotFormed", "NotFormed")


class Numbers(Sessions):
    def test_nine_figures_and_ten(self):
        for number in ("999999999", "-999999999"):
            self.tells("<p>a", [f"cut {number}", f"width {number}", f"undo {number}", f"hit {number} {number}", f"room {number}"],
                       "NoNode", "NoWidth", "NoMark", "none", "NoNode")
        for number in ("1000000000", "-1000000000", "0" * 9, "-0", "00", "+0", "1e1", "", "x", "1_0"):
            for row in ("cut {}", "width {}", "undo {}", "hit {} 0", "hit 0 {}", "room {}", "text {} x", "put 1 {} x", "edit {} 0 x",
                        "edit 0 {} x", "mark {} x y", "unmark {} x", "fire go {} "):
                self.is_no_row(row.format(number))


class Whole(Sessions):
    def test_refused_at_the_making(self):
        for most, text, more in ((4000, "x" * 4001, {}), (120, "<b>" * 120, {}), (20, "<b>" * 20, {}), (60, "", {"looks": "\n" * 60}),
                                 (4000, "", {"looks": "x" * 4001})):
            with self.assertRaises(TooLarge) as caught:
                session(text, "board", width=0, **more)
            self.assertEqual(caught.exception.most, most)
        for width in (0, 121):
            with self.assertRaises(NoWidth):
                session("", "board", width=width)

    def test_by_names(self):
        self.assertEqual(session(width=2, looks="p { align: right }", rows="board", text="<p>a"), " a|")
        self.assertEqual(session("a", "board"), "a" + " " * 39 + "|")
        with self.assertRaises(TypeError):
            session("a", "board", "")

    def test_no_session_hangs_on_another(self):
        rows = "keep\nedit 0 0 x\nboard\nundo 1"
        self.assertEqual(session("a", rows, width=2), session("a", rows, width=2))

    def test_as_a_viewer_tells(self):
        chance = random.Random(83)
        names = {"put_worth": "mark", "drop_worth": "unmark", "put": "put", "cut": "cut", "set_text": "text", "set_looks": "looks",
                 "resize": "width", "edit": "edit"}
        for _ in range(60):
            viewer = chance_viewer(chance)
            text, looks, width = viewer.text(), viewer.looks(), viewer.width()
            rows, told = [], []
            for _ in range(20):
                deed = chance_deed(chance, viewer)
                if deed[0] == "fire" or any(abs(part) > 999999999 for part in deed[1:] if isinstance(part, int)):
                    continue
                parts = [part.replace("\\", "\\\\").replace("\n", "\\n") if isinstance(part, str) else str(part) for part in deed[1:]]
                rows.append(" ".join([names[deed[0]], *parts]))
                try:
                    getattr(viewer, deed[0])(*deed[1:])
                    told.append("ok")
                except REFUSALS as error:
                    told.append(type(error).__name__)
                rows += ["news", "board"]
                told += [str(len(viewer.news())), "".join("".join(cell[0] for cell in row) + "|" for row in viewer.board())]
            self.tells(text, rows, *told, looks=looks, width=width)


if __name__ == "__main__":
    unittest.main()
