"""Behind a deed all other nodes than those that point 32 names keep their styles."""

import random
import unittest

from freshpage import trees
from freshpage.reader import read
from freshpage.styles import styles
from freshpage.trees import nodes_of, parents_of
from plain_deeds import outcome
from shapes import chance_looks, chance_page


def path_to(tree, node):
    """The way of tags to a tag, told by which of its parent's tags each is: no deed elsewhere changes it."""
    nodes, parents = nodes_of(tree), parents_of(tree)
    path = []
    while parents[node] is not None:
        beside = [k for k, parent in enumerate(parents) if parent == parents[node] and nodes[k][0] == "tag"]
        path.append(beside.index(node))
        node = parents[node]
    return tuple(path[::-1])


def styles_by_path(tree, looks):
    nodes = nodes_of(tree)
    return {path_to(tree, node): style for node, style in enumerate(styles(tree, looks)) if nodes[node][0] == "tag"}


class KeptStyles(unittest.TestCase):
    def keeps(self, deed, tree, looks, part, *told):
        """The deed changes styles of the part's top and what is within it alone."""
        new = outcome(getattr(trees, deed), tree, *told)
        if new[0] != "tag":
            return
        top = path_to(tree, part)
        before, after = styles_by_path(tree, looks), styles_by_path(new, looks)
        for styles_here, others in ((before, after), (after, before)):
            for path, style in styles_here.items():
                if path[:len(top)] != top:
                    self.assertEqual(others.get(path), style, (deed, tree, looks, told))

    def test_any_deed(self):
        chance = random.Random(29)
        for _ in range(150):
            tree, looks = read(chance_page(chance, 12)), chance_looks(chance, 6)
            nodes, parents = nodes_of(tree), parents_of(tree)
            for node in range(1, len(nodes)):
                name, value = chance.choice((("class", "x"), ("id", "y"), ("look", "color: red"), ("hide", "x")))
                parent = parents[node]
                if nodes[node][0] == "tag":
                    self.keeps("put_worth", tree, looks, node, node, name, value)
                    self.keeps("drop_worth", tree, looks, node, node, name)
                    self.keeps("set_text", tree, looks, parent, node, "x")
                    self.keeps("put", tree, looks, node, node, chance.randint(0, len(nodes[node][3])), "<a>x</a>y")
                self.keeps("cut", tree, looks, parent, node)


if __name__ == "__main__":
    unittest.main()
