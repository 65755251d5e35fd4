"""What holds of the layout and the painting of any page: all is as it is found in another way."""

import random
import unittest

from freshpage.boards import board, hit, painter
from freshpage.lines import lines_of
from freshpage.reader import read
from freshpage.rooms import kinds_of, page_high, rooms
from freshpage.units import units
from plain_layout import laid, layers_of, painted, plain_lines
from shapes import chance_laid_looks, chance_laid_page


class AnyPage(unittest.TestCase):
    def holds(self, tree, looks, width):
        boxes, high = laid(tree, looks, width)
        told = (looks, width, tree)
        self.assertEqual(kinds_of(tree, looks), [box.kind for box in boxes], told)
        self.assertEqual(rooms(tree, looks, width=width), [box.room for box in boxes], told)
        self.assertEqual(page_high(tree, looks, width=width), high, told)
        self.assertEqual(units(tree, looks, width=width), [unit for _, _, _, unit in layers_of(boxes) if unit], told)
        rows, hits, painters = painted(tree, looks, width)
        self.assertEqual(board(tree, looks, width=width), rows, told)
        for x, y in [*hits, (-1, 0), (0, -1), (width, 0), (0, high), (10 ** 19, 0), (0, -10 ** 19)]:
            self.assertEqual(hit(tree, looks, x, y, width=width), hits.get((x, y)), (x, y, told))
            self.assertEqual(painter(tree, looks, x, y, width=width), painters.get((x, y)), (x, y, told))

    def test_pages_by_chance(self):
        chance = random.Random(31)
        for _ in range(400):
            tree = read(chance_laid_page(chance, chance.choice((4, 10, 25))))
            self.holds(tree, chance_laid_looks(chance, chance.choice((1, 4, 8))), chance.choice((1, 2, 5, 9, 14, 24)))


class AnyFlow(unittest.TestCase):
    def test_flows_by_chance(self):
        chance = random.Random(37)
        for _ in range(3000):
            nodes = sorted(chance.choices(range(9), k=chance.randint(0, 40)))
            signs = [(chance.choice("abc  \n"), node) for node in nodes]
            wide = chance.randint(-1, 12)
            self.assertEqual(lines_of(signs, wide), plain_lines(signs, wide), (signs, wide))

    def test_long_words_by_chance(self):
        chance = random.Random(41)
        for _ in range(1000):
            signs = [(chance.choice("abcdefg "), node) for node in range(chance.randint(0, 60))]
            wide = chance.randint(1, 7)
            self.assertEqual(lines_of(signs, wide), plain_lines(signs, wide), (signs, wide))


if __name__ == "__main__":
    unittest.main()
