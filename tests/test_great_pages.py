"""Great pages are answered in well under a second."""

import time
import unittest

from freshpage.looks import rules_of
from freshpage.reader import read
from freshpage.selectors import matches
from freshpage.styles import style_lead, styles
from freshpage.trees import cut, drop_worth, nodes_of, parents_of, put, put_worth, set_text

SIGNS = ('<a class="x y" id="z">' * 9 + "x" + "</a>" * 9) * 2 + '<a class="x y" id="z">' * 18 + "x" + "</a>" * 18
SIGNS += '<a class="x y">' * 10 + "</a>" * 10
TREE = read(SIGNS + "<b></b>" * (120 - len(nodes_of(read(SIGNS)))))
DECLARATIONS = "; ".join(["color: inherit", "back: red", "width: 11/12", "pad: 20", "margin: 19 !", "layer: -9"] * 2)


class GreatPages(unittest.TestCase):
    def answers(self, function, *told):
        begin = time.perf_counter()
        function(*told)
        self.assertLess(time.perf_counter() - begin, 0.9)

    def test_it_is_great(self):
        deeps = [1]
        for parent in parents_of(TREE)[1:]:
            deeps.append(deeps[parent] + 1)
        self.assertEqual((len(nodes_of(TREE)), max(deeps)), (120, 20))

    def test_styles_and_leads(self):
        for selector in ("* * * *", "a a > a a", "a.x.y[id]:first *.y#z *.x a.x.y", "a > a > a > b", "#z #z #z .x"):
            looks = "\n".join([", ".join([selector] * 6) + f" {{ {DECLARATIONS} }}"] * 60)
            self.assertNotIn(None, rules_of(looks))
            self.answers(rules_of, looks)
            self.answers(styles, TREE, looks)
            for node in (0, 50, 119):
                self.answers(style_lead, TREE, looks, node, "color")
                self.answers(matches, selector, TREE, node)

    def test_deeds(self):
        for deed, *told in ((put_worth, 40, "k", "x"), (drop_worth, 40, "id"), (put, 119, 0, ""), (cut, 40),
                            (set_text, 40, "x")):
            self.answers(deed, TREE, *told)


if __name__ == "__main__":
    unittest.main()
