import unittest

from freshpage.reader import read
from freshpage.trees import MOST_DEEP, MOST_NODES, nodes_of, parents_of
from shapes import chance_texts, nodes_in, page, tag, text


class Numbers(unittest.TestCase):
    def test_the_page_alone(self):
        self.assertEqual(nodes_of(page()), [page()])
        self.assertEqual(parents_of(page()), [None])

    def test_each_node_ahead_of_its_children_from_left_to_right(self):
        b = tag("b", text("x"), tag("c"), text("y"))
        a = tag("a", b, text("z"))
        tree = page(text("v"), a, tag("d"), text("w"))
        self.assertEqual(nodes_of(tree), [tree, text("v"), a, b, text("x"), tag("c"), text("y"), text("z"), tag("d"),
                                          text("w")])
        self.assertEqual(parents_of(tree), [None, 0, 0, 2, 3, 3, 3, 2, 0, 0])

    def test_like_nodes_are_told_apart(self):
        tree = page(tag("a", tag("a")), tag("a", tag("a")), tag("a"))
        self.assertEqual(parents_of(tree), [None, 0, 1, 0, 3, 0])
        self.assertEqual([len(node[3]) for node in nodes_of(tree)], [3, 1, 0, 1, 0, 0])

    def test_texts_and_scripts_and_pages(self):
        tree = page(tag("script", text("<a></a>")), tag("page", text("x")))
        self.assertEqual(nodes_of(tree), [tree, tree[3][0], text("<a></a>"), tree[3][1], text("x")])
        self.assertEqual(parents_of(tree), [None, 0, 1, 0, 3])

    def test_any_tree(self):
        for signs in chance_texts(300, 30):
            tree = read(signs)
            nodes = nodes_of(tree)
            parents = parents_of(tree)
            self.assertEqual(nodes, nodes_in(tree), signs)
            self.assertEqual(len(parents), len(nodes))
            for number, node in enumerate(nodes):
                children = [nodes[k] for k, parent in enumerate(parents) if parent == number]
                self.assertEqual(children, list(node[3]) if node[0] == "tag" else [], signs)

    def test_by_names(self):
        self.assertEqual(nodes_of(tree=page(text("x"))), [page(text("x")), text("x")])
        self.assertEqual(parents_of(tree=page(text("x"))), [None, 0])

    def test_told_lists_are_the_askers_own(self):
        tree = page(tag("a", text("x")), text("y"))
        for function in (nodes_of, parents_of):
            told, other = function(tree), function(tree)
            self.assertIs(type(told), list)
            before = list(other)
            told[0] = "changed"
            told.append(9)
            self.assertEqual(other, before)
            self.assertEqual(function(tree), before)

    def test_beyond_the_bounds(self):
        self.assertEqual(parents_of(read("<a>" * 3000)), [None, *range(3000)])
        self.assertEqual(len(nodes_of(read("<a>" * 3000))), 3001)
        self.assertEqual(parents_of(read("<a></a>" * 500)), [None] + [0] * 500)

    def test_bounds(self):
        self.assertEqual((MOST_NODES, MOST_DEEP), (120, 20))


if __name__ == "__main__":
    unittest.main()
