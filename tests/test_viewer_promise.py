"""The promise: whatever was done at a viewer, all is as at one made anew of the present text, looks and width."""

import random
import unittest

from freshpage.reader import read
from freshpage.trees import nodes_of
from freshpage.viewer import Viewer
from freshpage.writer import written
from viewing import all_of, all_told, chance_deed, chance_viewer, do, outcome_of


class Promise(unittest.TestCase):
    def is_fresh(self, viewer):
        told = all_of(viewer)
        fresh = Viewer(viewer.text(), looks=viewer.looks(), width=viewer.width())
        self.assertEqual(told, all_of(fresh))
        self.assertEqual(told, all_told(viewer.text(), viewer.looks(), viewer.width()))
        tree = viewer.tree()
        self.assertEqual(read(viewer.text()), tree)
        self.assertEqual(read(written(tree)), tree)
        return told

    def leads_are_right(self, viewer, told):
        """What is painted at a cell stands in the stretch to which the cell leads."""
        nodes = nodes_of(viewer.tree())
        for y, row in enumerate(told["board"][:20]):
            for x, cell in enumerate(row):
                lead = viewer.cell_lead(x, y)
                if lead is None:
                    self.assertEqual(cell, (" ", "black", "clear"))
                    continue
                node, (first, behind) = lead
                self.assertEqual((first, behind), told["stretches"][node])
                if nodes[node][0] == "text":
                    self.assertIn(cell[0], nodes[node][1].replace("\n", " "))

    def fire_as_fresh(self, viewer, deed):
        told = outcome_of(viewer, *deed[1:])
        text = viewer.text()
        before = viewer.tree()
        error = None
        try:
            outcome = viewer.fire(*deed[1:])
        except Exception as refusal:
            error = type(refusal)
        if error is not None:
            self.assertEqual(told, error)
            return
        self.assertEqual((viewer.tree(), outcome), told)
        self.assertEqual(viewer.text(), text if viewer.tree() == before else written(viewer.tree()))

    def test_any_deeds(self):
        chance = random.Random(61)
        done = 0
        for _ in range(40):
            viewer = chance_viewer(chance)
            for _ in range(12):
                told = self.is_fresh(viewer)
                self.leads_are_right(viewer, told)
                for _ in range(chance.choice((1, 1, 1, 4))):
                    deed = chance_deed(chance, viewer)
                    before = (viewer.text(), viewer.looks(), viewer.width(), viewer.tree())
                    if deed[0] == "fire":
                        self.fire_as_fresh(viewer, deed)
                    elif do(viewer, deed) is not None:
                        self.assertEqual((viewer.text(), viewer.looks(), viewer.width(), viewer.tree()), before)
                    else:
                        done += 1
        self.assertGreater(done, 300)

    def test_marks(self):
        chance = random.Random(67)
        for _ in range(40):
            viewer = chance_viewer(chance)
            kept = []
            for _ in range(15):
                if chance.random() < 0.4:
                    self.assertEqual(viewer.mark(), len(kept))
                    kept.append(all_of(viewer))
                elif kept and chance.random() < 0.4:
                    mark = chance.randrange(len(kept))
                    viewer.undo(mark)
                    self.assertEqual(self.is_fresh(viewer), kept[mark])
                    del kept[mark + 1:]
                else:
                    do(viewer, chance_deed(chance, viewer))

    def test_news(self):
        chance = random.Random(71)
        for _ in range(40):
            viewer = chance_viewer(chance)
            shown = viewer.board()
            viewer.mark()
            for _ in range(8):
                for _ in range(chance.randint(0, 3)):
                    if chance.random() < 0.2:
                        viewer.undo(0)
                    do(viewer, chance_deed(chance, viewer))
                before, shown = shown, viewer.board()
                cells = {(x, y) for rows in (before, shown) for y, row in enumerate(rows) for x, _ in enumerate(row)}
                told = [cell for cell in cells if self.cell(before, cell) != self.cell(shown, cell)]
                self.assertEqual(viewer.news(), sorted(told, key=lambda cell: (cell[1], cell[0])))
                self.assertEqual(viewer.news(), [])

    def cell(self, rows, cell):
        x, y = cell
        return rows[y][x] if y < len(rows) and x < len(rows[y]) else None


if __name__ == "__main__":
    unittest.main()
