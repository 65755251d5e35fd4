"""What holds of any script and any event: all is as it is found in another way."""

import random
import unittest

from chance_events import BROKEN, PARTS, chance_event_page, chance_rows
from freshpage.events import fired
from freshpage.reader import read
from freshpage.scripts import fits, rows_of
from freshpage.trees import nodes_of
from plain_events import plain_fired, plain_fits, plain_rows

WORDS = ["let", "mark", "unmark", "text", "add", "cut", "say", "if", "else", "end", "loop", "stop", "prevent", "send",
         "this", "target", "#a", "#", "#A", "x", "sign", "wide", "worth", "look", "1", "-0", "01", '"a b"', '"', '""',
         "+", "-", "<", "=", "&", "", "#abcdefghijkl", "#abcdefghijklm", "a-b", "-a", "1234567890", "123456789"]


class AnyScript(unittest.TestCase):
    def holds(self, code):
        self.assertEqual(rows_of(code), plain_rows(code), code)
        self.assertEqual(fits(code), plain_fits(code), code)

    def test_rows_by_chance(self):
        chance = random.Random(43)
        for _ in range(20000):
            self.holds(" ".join(chance.choices(WORDS, k=chance.randint(1, 7))))

    def test_rows_that_mostly_fit(self):
        chance = random.Random(47)
        for _ in range(3000):
            rows = [row.split(" ") for row in chance_rows(chance, 4, 0)]
            for words in rows:
                if chance.random() < 0.3:
                    at = chance.randrange(len(words))
                    words[at:at + chance.randint(0, 1)] = chance.choices(WORDS, k=chance.randint(0, 2))
            self.holds("\n".join(" ".join(words) for words in rows))

    def test_blocks_by_chance(self):
        chance = random.Random(53)
        for _ in range(5000):
            rows = chance.choices(("if x", "loop 2", "else", "end", "end", "end", "", "stop", "fault"),
                                  weights=(5, 3, 3, 4, 2, 1, 1, 1, 0.1), k=chance.randint(0, 40))
            self.holds("\n".join(rows))

    def test_pieces(self):
        for part in [*PARTS, *BROKEN]:
            self.holds(part)
            self.holds(f"say {part}")
            self.holds(f"  let x {part} & {part}  ")


class AnyEvent(unittest.TestCase):
    def holds(self, tree, looks, kind, node, sign, width):
        told = fired(tree, looks, kind, node, sign=sign, width=width)
        self.assertEqual(told, plain_fired(tree, looks, kind, node, sign, width), (kind, node, sign, tree))
        return told[1]

    def test_events_by_chance(self):
        chance = random.Random(59)
        met = set()
        for _ in range(800):
            tree = read(chance_event_page(chance))
            tags = [node for node, one in enumerate(nodes_of(tree)) if one[0] == "tag"]
            kind = chance.choice(("click", "click", "ping", "key", "back"))
            looks = chance.choice(("", "p { border: 1 }", "b { display: block; margin: 1 }\n#a { width: 1/2 }"))
            outcome = self.holds(tree, looks, kind, chance.choice(tags), chance.choice(("", "s")), 20)
            met.update(one[0] for one in outcome)
        self.assertEqual(met, {"run", "say", "fault", "own", "event", "far"})


if __name__ == "__main__":
    unittest.main()
