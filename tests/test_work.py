"""What was worked out anew lies within the parts that a deed touches, and all that is another one is among it."""

import random
import unittest

from freshpage.rooms import kinds_of
from freshpage.styles import styles
from freshpage.trees import nodes_of, parents_of
from freshpage.viewer import Viewer
from plain_layout import flows_of, laid
from viewing import chance_deed, chance_viewer, do

DEEDS = ("put_worth", "drop_worth", "put", "cut", "set_text", "set_looks", "resize", "edit", "fire")


def laid_out(viewer):
    """Of each block its size, and how its flows and blocks lie, seen from its own corner."""
    boxes, _ = laid(viewer.tree(), viewer.looks(), viewer.width())
    told = {}
    for box in boxes:
        if box.kind == "block":
            x, y, wide, high = box.room
            cells = []
            for part in flows_of(box):
                if isinstance(part, list):
                    numbers = sorted({node for _, node in part})
                    cells.append([(a - x, b - y, sign) for node in numbers for a, b, sign in boxes[node].cells])
                else:
                    cells.append((part.room[0] - x, part.room[1] - y, part.room[2:]))
            told[box.number] = (wide, high, cells)
    return told


class Work(unittest.TestCase):
    def told(self, viewer):
        """The work behind the board asked."""
        viewer.board()
        told = viewer.work()
        self.assertEqual((type(told), [type(part) for part in told]), (tuple, [list, list]))
        for part in told:
            self.assertEqual(part, sorted(set(part)))
        kinds = kinds_of(viewer.tree(), viewer.looks())
        self.assertEqual([kinds[node] for node in told[1]], ["block"] * len(told[1]))
        self.assertTrue(all(0 <= node < len(kinds) for node in told[0]))
        viewer.board()
        self.assertEqual(viewer.work(), ([], []))
        return told


class First(Work):
    def test_all_that_is_laid(self):
        chance = random.Random(73)
        for _ in range(60):
            viewer = chance_viewer(chance)
            kinds = kinds_of(viewer.tree(), viewer.looks())
            styled, blocks = self.told(viewer)
            self.assertLessEqual({node for node, kind in enumerate(kinds) if kind}, set(styled))
            self.assertEqual([node for node, kind in enumerate(kinds) if kind == "block"], blocks)

    def test_asked_first_of_all(self):
        viewer = Viewer("<p>a</p>b")
        for _ in range(2):
            styled, blocks = viewer.work()
            self.assertLessEqual(set(styled), {0, 1, 2, 3})
            self.assertLessEqual(set(blocks), {0, 1})
        self.assertEqual((styled, blocks), ([], []))

    def test_lists_are_the_askers_own(self):
        viewer = Viewer("<p>a</p>b")
        viewer.board()
        for part in viewer.work():
            part.append(99)
        self.assertEqual(viewer.work(), ([], []))

    def test_it_is_not_undone(self):
        for deed in (("undo", 0), ("edit", 0, 0, "</p>"), ("edit", 0, 0, "x")):
            viewer = Viewer("<p>a</p>b")
            viewer.mark()
            viewer.board()
            getattr(viewer, deed[0])(*deed[1:])
            styled, blocks = viewer.work()
            self.assertLessEqual({0, 1, 2, 3}, set(styled))
            self.assertIn(0, blocks)

    def test_it_brings_nothing_about(self):
        viewer = Viewer("<p>a</p><p>b</p>")
        viewer.board()
        viewer.work()
        viewer.put_worth(1, "look", "pad: 1")
        ahead = viewer.work()
        viewer.board()
        behind = viewer.work()
        self.assertEqual(sorted({*ahead[0], *behind[0]}), [1, 2])
        self.assertEqual(sorted({*ahead[1], *behind[1]}), [0, 1])
        self.assertEqual(viewer.work(), ([], []))


class Parts(Work):
    """A page of three blocks with some within: what each deed names."""

    TEXT = "<list><p>a <b>b</b></p><p>c</p></list><list><item>d</item>e<p>f</p></list>"

    def setUp(self):
        self.viewer = Viewer(self.TEXT, looks="list { margin: 1 }")
        self.told(self.viewer)
        self.names = [node[1] for node in nodes_of(self.viewer.tree())]

    def told_behind(self, name, *told):
        getattr(self.viewer, name)(*told)
        return self.told(self.viewer)

    def test_a_worth(self):
        self.assertEqual(self.names, ["page", "list", "p", "a ", "b", "b", "p", "c", "list", "item", "d", "e", "p", "f"])
        self.assertEqual(self.told_behind("put_worth", 4, "look", "color: red"), ([4, 5], [0, 1, 2]))
        self.assertEqual(self.told_behind("put_worth", 2, "x", "y"), ([2, 3, 4, 5], [0, 1, 2]))
        self.assertEqual(self.told_behind("drop_worth", 2, "x"), ([2, 3, 4, 5], [0, 1, 2]))
        self.assertEqual(self.told_behind("drop_worth", 8, "x"), ([], []))
        self.assertEqual(self.told_behind("put_worth", 8, "look", "pad: 1"), ([8, 9, 10, 11, 12, 13], [0, 8, 9, 12]))

    def test_a_text(self):
        self.assertEqual(self.told_behind("set_text", 6, "x y")[1], [0, 1, 6])
        styled, blocks = self.told_behind("set_text", 2, "z")
        self.assertLessEqual(set(styled), {1, 2, 3, 4, 5})
        self.assertIn(3, styled)
        self.assertEqual(blocks, [0, 1, 2])

    def test_put_and_cut(self):
        styled, blocks = self.told_behind("put", 6, 1, "<em>z</em>")
        self.assertEqual((set(styled) | {6}, blocks), ({6, 7, 8, 9}, [0, 1, 6]))
        self.assertEqual([node[1] for node in nodes_of(self.viewer.tree())][8:10], ["em", "z"])
        styled, blocks = self.told_behind("cut", 8)
        self.assertLessEqual(set(styled), {6, 7})
        self.assertEqual(blocks, [0, 1, 6])

    def test_the_nodes_are_numbered_as_now(self):
        self.viewer.board()
        self.viewer.put_worth(12, "look", "color: red")
        self.viewer.board()
        self.viewer.cut(1)
        self.assertEqual([node[1] for node in nodes_of(self.viewer.tree())], ["page", "list", "item", "d", "e", "p", "f"])
        styled, blocks = self.viewer.work()
        self.assertLessEqual({5, 6}, set(styled))
        self.assertLessEqual(set(styled), set(range(7)))
        self.assertLessEqual({0, 1, 5}, set(blocks))

    def test_what_is_no_block_now_is_left_out(self):
        self.viewer.put_worth(2, "x", "y")
        self.viewer.board()
        self.viewer.put_worth(2, "look", "display: none")
        self.assertNotIn(2, self.viewer.work()[1])
        self.viewer.board()
        self.assertNotIn(2, self.viewer.work()[1])

    def test_another_width(self):
        styled, blocks = self.told_behind("resize", 20)
        self.assertEqual((styled, blocks), ([], [0, 1, 2, 6, 8, 9, 12]))
        self.assertEqual(self.told_behind("resize", 20), ([], []))

    def test_other_looks(self):
        styled, blocks = self.told_behind("set_looks", "list { margin: 2 }")
        self.assertLessEqual({1, 8}, set(styled))
        self.assertLessEqual({0, 1, 2, 6, 8, 9, 12}, set(blocks))

    def test_asking_another_thing_first(self):
        self.viewer.put_worth(12, "look", "color: red")
        self.assertEqual(self.viewer.style(13)[3], "red")
        self.viewer.room(2)
        self.viewer.lead(4, "color")
        self.assertEqual(self.told(self.viewer), ([12, 13], [0, 8, 12]))


class AnyDeed(Work):
    def bounds(self, deed, tree, more):
        """The nodes, numbered as now, whose styles may be worked out, and the blocks; None where any may."""
        parents = parents_of(tree)
        if deed[0] in ("put_worth", "drop_worth", "put"):
            top = deed[1]
        elif deed[0] in ("cut", "set_text"):
            top = parents[deed[1]] or 0
        else:
            return (set() if deed[0] == "resize" else None), None
        behind = top + 1
        while behind < len(parents) and parents[behind] >= top:
            behind += 1
        part = set(range(top, behind + more))
        around, node = set(), parents[top]
        while node is not None:
            around.add(node)
            node = parents[node]
        return part, part | around

    def test_bounds(self):
        chance = random.Random(79)
        met = dict.fromkeys(DEEDS, 0)
        for _ in range(250):
            viewer = chance_viewer(chance)
            self.told(viewer)
            for _ in range(6):
                deed = chance_deed(chance, viewer)
                tree = viewer.tree()
                ahead = (styles(tree, viewer.looks()), laid_out(viewer), kinds_of(tree, viewer.looks()))
                if do(viewer, deed) is not None:
                    self.assertEqual(viewer.work(), ([], []))
                    continue
                told = self.told(viewer)
                met[deed[0]] += 1
                self.within_bounds(deed, tree, viewer, told)
                self.has_all(viewer, tree, ahead, told)
        self.assertGreater(min(met.values()), 10, met)

    def within_bounds(self, deed, tree, viewer, told):
        for part, most in zip(told, self.bounds(deed, tree, len(nodes_of(viewer.tree())) - len(nodes_of(tree)))):
            if most is not None:
                self.assertLessEqual(set(part), most, deed)

    def has_all(self, viewer, tree, ahead, told):
        nodes = [node[:2] if node[0] == "tag" else node[:1] for node in nodes_of(tree)]
        if nodes != [node[:2] if node[0] == "tag" else node[:1] for node in nodes_of(viewer.tree())]:
            return
        kinds = kinds_of(viewer.tree(), viewer.looks())
        for node, style in enumerate(styles(viewer.tree(), viewer.looks())):
            if kinds[node] and style != ahead[0][node]:
                self.assertIn(node, told[0])
        for node, block in laid_out(viewer).items():
            if block != ahead[1].get(node):
                self.assertIn(node, told[1])


if __name__ == "__main__":
    unittest.main()
