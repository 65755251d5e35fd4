import random
import unittest

from freshpage.errors import NoNode, NoProperty
from freshpage.looks import own_rules, rules_of
from freshpage.reader import read
from freshpage.styles import PROPERTIES, style_lead, styles
from freshpage.trees import nodes_of, parents_of
from plain_looks import plain_styles
from shapes import chance_looks, chance_page, page, tag, text


class Leads(unittest.TestCase):
    def leads(self, looks, signs, node, name, told):
        lead = style_lead(read(signs), looks, node, name)
        self.assertEqual(lead, told)
        self.assertIs(type(lead), tuple)


class Kinds(Leads):
    def test_a_row(self):
        self.leads("b { color: red }", "<b>", 1, "color", ("row", 0, 0))
        self.leads("a { color: red }\nb { pad: 1; color: red }", "<b>", 1, "color", ("row", 1, 1))
        self.leads("page { pad: 3 }", "", 0, "pad", ("row", 0, 0))

    def test_an_own_look(self):
        self.leads("b { color: red }", '<b look="pad: 1; color: blue">', 1, "color", ("own", 1))
        self.leads("b { color: red }", '<b look="pad: 1; color: blue">', 1, "pad", ("own", 0))

    def test_handed_down(self):
        for name, value in (("align", "right"), ("color", "red"), ("hide", "yes")):
            looks = f"a {{ {name}: {value} }}"
            self.leads(looks, "x<a><b><c>", 2, name, ("row", 0, 0))
            self.leads(looks, "x<a><b><c>", 3, name, ("parent", 2))
            self.leads(looks, "x<a><b><c>", 4, name, ("parent", 3))
            self.leads("", "x<a><b>", 2, name, ("parent", 0))
            self.leads("", "x<a><b>", 3, name, ("parent", 2))

    def test_plain(self):
        for name in PROPERTIES:
            self.leads("a { color: red }", "<b>", 0, name, ("plain",))
            if name not in ("align", "color", "hide"):
                self.leads("page { pad: 3 }", "<b>", 1, name, ("plain",))

    def test_inherit_leads_to_its_declaration(self):
        for name in PROPERTIES:
            self.leads(f"page, b {{ {name}: inherit }}", "<b>", 0, name, ("row", 0, 0))
            self.leads(f"page, b {{ {name}: inherit }}", "<b>", 1, name, ("row", 0, 0))
            self.leads(f"b {{ {name}: 0 }}", f'<b look="{name}: inherit">', 1, name, ("own", 0))

    def test_texts(self):
        for name in PROPERTIES:
            for node, parent in ((1, 0), (3, 2), (5, 2)):
                self.leads(f"b {{ {name}: inherit ! }}", 'x<b look="pad: 3">y<c></c>z', node, name, ("parent", parent))


class Numbers(Leads):
    def test_declarations_that_are_passed_over_count(self):
        looks = "b { x: y; color: rod; color: red; pad: 21; pad: 3 }"
        self.leads(looks, "<b>", 1, "color", ("row", 0, 2))
        self.leads(looks, "<b>", 1, "pad", ("row", 0, 4))
        self.leads("", '<b look="x: y; color: rod; color: red">', 1, "color", ("own", 2))

    def test_rows_that_are_passed_over_count(self):
        self.leads("\n\nb {pad: 2 }\nb { pad: 1 }\n", "<b>", 1, "pad", ("row", 3, 0))

    def test_the_last_of_many(self):
        looks = "\n".join(["b { " + "; ".join(["pad: 1"] * 12) + " }"] * 60)
        self.leads(looks, "<b>", 1, "pad", ("row", 59, 11))

    def test_the_greatest(self):
        self.leads("b { pad: 1 !; pad: 2 }\nb { pad: 1 }", "<b>", 1, "pad", ("row", 0, 0))
        self.leads("#x { pad: 1 }\nb { pad: 1 }", '<b id="x">', 1, "pad", ("row", 0, 0))
        self.leads("b { pad: 1 ! }", '<b look="pad: 1">', 1, "pad", ("row", 0, 0))
        self.leads("b { pad: 1 ! }", '<b look="pad: 1; pad: 1 !; pad: 1">', 1, "pad", ("own", 1))


class Refusals(Leads):
    def refused(self, error, tree, node, name):
        with self.assertRaises(error) as caught:
            style_lead(tree, "b { color: red }", node, name)
        self.assertIs(type(caught.exception), error)

    def test_no_node(self):
        for node in (-1, 3, 4, -3, 10 ** 19, -10 ** 19):
            for name in ("color", "pad", "no-such", "", "Color"):
                self.refused(NoNode, read("<b>x"), node, name)

    def test_no_property(self):
        for name in ("", "colour", "Color", "color ", "padding", "inherit", "a", "color\n", "plain"):
            for node in (0, 1, 2):
                self.refused(NoProperty, read("<b>x"), node, name)

    def test_the_page_alone(self):
        self.refused(NoNode, page(), 1, "color")
        self.leads("", "", 0, "color", ("plain",))


class AnyPage(Leads):
    def test_as_found_in_another_way(self):
        chance = random.Random(19)
        for _ in range(120):
            tree, looks = read(chance_page(chance, 10)), chance_looks(chance, 7)
            told = [[style_lead(tree, looks, node, name) for name in PROPERTIES] for node in range(len(nodes_of(tree)))]
            self.assertEqual(told, [leads for _, leads in plain_styles(tree, looks)], (tree, looks))

    def test_each_leads_to_what_gave_the_value(self):
        chance = random.Random(23)
        for _ in range(60):
            tree, looks = read(chance_page(chance, 10)), chance_looks(chance, 7)
            told, nodes, parents = styles(tree, looks), nodes_of(tree), parents_of(tree)
            for node, style in enumerate(told):
                for at, name in enumerate(PROPERTIES):
                    kind, *numbers = style_lead(tree, looks, node, name)
                    if kind == "parent":
                        self.assertEqual((numbers, style[at]), ([parents[node]], told[parents[node]][at]))
                        continue
                    if kind == "plain":
                        continue
                    rules = rules_of(looks)[numbers[0]][1] if kind == "row" else own_rules(dict(nodes[node][2])["look"])
                    given, value, _ = rules[numbers[-1]]
                    self.assertEqual(given, name)
                    if value != "inherit":
                        self.assertEqual(value, style[at])

    def test_by_names(self):
        tree = page(tag("b", text("x")))
        before = repr(tree)
        self.assertEqual(style_lead(name="pad", node=1, looks="b { pad: 2 }", tree=tree), ("row", 0, 0))
        self.assertEqual(repr(tree), before)


if __name__ == "__main__":
    unittest.main()
