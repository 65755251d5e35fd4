"""Great pages are answered in well under a second."""

import time
import unittest

from freshpage.boards import board, hit, painter
from freshpage.events import fired
from freshpage.lines import lines_of
from freshpage.looks import rules_of
from freshpage.reader import read
from freshpage.rooms import kinds_of, page_high, rooms
from freshpage.selectors import matches
from freshpage.sessions import session
from freshpage.styles import style_lead, styles
from freshpage.trees import cut, drop_worth, nodes_of, parents_of, put, put_worth, set_text
from freshpage.units import units
from freshpage.viewer import Viewer
from freshpage.writer import written

SIGNS = ('<a class="x y" id="z">' * 9 + "x" + "</a>" * 9) * 2 + '<a class="x y" id="z">' * 18 + "x" + "</a>" * 18
SIGNS += '<a class="x y">' * 10 + "</a>" * 10
TREE = read(SIGNS + "<b></b>" * (120 - len(nodes_of(read(SIGNS)))))
# Sixty rows under which nearly all nodes are laid as blocks, as great as looks may be.
ROWS = ["a.x > a, #z a, .y:first, b", "a a > a, * > #z, [id] .x, p", "* * * *, b:first, .x.y", "p > p, p p p, p"]
LAID = "\n".join(f"{ROWS[k % 4]} {{ display: block; margin: {k % 3}; pad: 1 }}" for k in range(60))
CODE = "\n".join(["loop 20", "loop 7", "add #log sign & wide this", "mark #log k high target + top #log", "say look this color", "end",
                  "end"])
EVENTS = f'<p on-go="x" id="log"></p><script name="x">{CODE}</script>'
DECLARATIONS = "; ".join(["color: inherit", "back: red", "width: 11/12", "pad: 20", "margin: 19 !", "layer: -9"] * 2)


def great_with_events():
    """A page of 116 nodes, twenty deep, with a script that does much, and its text."""
    signs = EVENTS + SIGNS
    tree = read(signs + "<b></b>" * (116 - len(nodes_of(read(signs)))))
    return tree, written(tree)


class GreatPages(unittest.TestCase):
    def answers(self, function, *told, most=0.9, **more):
        begin = time.perf_counter()
        answer = function(*told, **more)
        self.assertLess(time.perf_counter() - begin, most)
        return answer

    def test_it_is_great(self):
        deeps = [1]
        for parent in parents_of(TREE)[1:]:
            deeps.append(deeps[parent] + 1)
        self.assertEqual((len(nodes_of(TREE)), max(deeps)), (120, 20))

    def test_styles_and_leads(self):
        for selector in ("* * * *", "a a > a a", "a.x.y[id]:first *.y#z *.x a.x.y", "a > a > a > b", "#z #z #z .x"):
            looks = "\n".join([", ".join([selector] * 6) + f" {{ {DECLARATIONS} }}"] * 60)
            self.assertNotIn(None, rules_of(looks))
            self.answers(rules_of, looks)
            self.answers(styles, TREE, looks)
            for node in (0, 50, 119):
                self.answers(style_lead, TREE, looks, node, "color")
                self.answers(matches, selector, TREE, node)

    def test_deeds(self):
        for deed, *told in ((put_worth, 40, "k", "x"), (drop_worth, 40, "id"), (put, 119, 0, ""), (cut, 40),
                            (set_text, 40, "x")):
            self.answers(deed, TREE, *told)

    def test_layout_and_paint(self):
        self.assertEqual((len(LAID.split("\n")), rules_of(LAID).count(None)), (60, 0))
        for tree, width in ((TREE, 40), (TREE, 120), (read("<p>" * 18 + "x" + "</p>" * 18 + "<p>x</p>" * 40), 120)):
            self.assertIn("block", kinds_of(tree, LAID)[1:])
            for function in (rooms, page_high, units, board):
                self.answers(function, tree, LAID, width=width)
            for function in (hit, painter):
                self.answers(function, tree, LAID, 5, 5, width=width)

    def test_flows_of_four_thousand_signs(self):
        for signs in ("a " * 2000, "a" * 4000, " " * 4000, "ab\n" * 1333, "word of words " * 285):
            for width in (1, 2, 40, 120):
                self.answers(lines_of, [(sign, k // 50) for k, sign in enumerate(signs)], width)
                for function in (rooms, units, board):
                    self.answers(function, read(signs), "", width=width)

    def test_boards_of_tens_of_thousands_of_cells(self):
        tree = read("<p>" * 18 + "x" + "</p>" * 18 + "<p>x</p>" * 40)
        looks = "p { margin: 9; pad: 4; border: 1; back: red; down: -1 }"
        rows = self.answers(board, tree, looks, width=120)
        self.assertGreater(len(rows) * 120, 90000)
        begin = time.perf_counter()
        for x in range(120):
            hit(tree, looks, x, 300, width=120)
            painter(tree, looks, x, 300, width=120)
        self.assertLess(time.perf_counter() - begin, 0.9)

    def test_ordinary_pages(self):
        signs = "".join(f'<p id="{name}"><b>some <em>words</em></b> here</p>' for name in "abcde")
        begin = time.perf_counter()
        for k in range(20):
            tree = read(signs + "x" * k)
            looks = f"p {{ margin: 1; border: 1; width: {30 + k} }}\nem {{ back: red }}"
            for function in (rooms, units, board):
                function(tree, looks)
            for x in range(40):
                hit(tree, looks, x, 1)
                painter(tree, looks, x, 1)
            Viewer(signs + "x" * k, looks=looks).news()
        self.assertLess((time.perf_counter() - begin) / 20, 0.03)

    def test_events(self):
        tree, _ = great_with_events()
        told, outcome = self.answers(fired, tree, LAID, "go", 1, sign="a", most=2)
        self.assertEqual(outcome[-1], ("far",))
        self.assertGreater(len(outcome), 100)

    def test_sessions_of_eight_thousand_signs(self):
        _, text = great_with_events()
        for rows in ("board", "news\nmark 1 x y\nunmark 1 x\nboard", "keep\nput 1 0 <b>x</b>\nroom 3\nundo 0\nhit 3 3",
                     "width 30\nlooks p { margin: 1 }\nnews\nwidth 50\nlooks p { pad: 1 }\nnews", "edit 0 0 x\nedit 0 1 \nnews"):
            many = 8000 // (len(rows) + 1)
            told = self.answers(session, text, "\n".join([rows] * many), looks=LAID, most=9)
            self.assertEqual(len(told.split("\n")), many * len(rows.split("\n")))
        told = self.answers(session, text, "\n".join(["fire go 1 a\nundo 0\nkeep"] * 30), looks=LAID, most=9)
        self.assertIn("far /", told)


if __name__ == "__main__":
    unittest.main()
