import random
import unittest

from freshpage.reader import read
from freshpage.styles import PROPERTIES, styles
from plain_looks import plain_styles
from shapes import chance_looks, chance_page, page, tag, text

PLAIN = {"align": "left", "back": "clear", "border": "0", "color": "black", "display": "inline", "down": "0",
         "hide": "no", "layer": "0", "margin": "0", "pad": "0", "right": "0", "width": "auto"}
HANDED = {"align": "right", "color": "red", "hide": "yes"}
NOT_HANDED = {"back": "red", "border": "1", "display": "none", "down": "3", "layer": "-2", "margin": "4", "pad": "5",
              "right": "-6", "width": "1/2"}


def look(told):
    return "; ".join(f"{name}: {value}" for name, value in told.items())


class Styles(unittest.TestCase):
    def value(self, looks, signs, node, name):
        return styles(read(signs), looks)[node][PROPERTIES.index(name)]

    def colors(self, looks, signs, *told):
        """The colors of all nodes, by their numbers."""
        at = PROPERTIES.index("color")
        self.assertEqual([style[at] for style in styles(read(signs), looks)], list(told), (looks, signs))

    def is_style(self, style, **others):
        self.assertEqual(dict(zip(PROPERTIES, style, strict=True)), {**PLAIN, **others})


class Plain(Styles):
    def test_without_looks(self):
        told = styles(read("x<b>y</b><p>z"), "")
        self.assertEqual(len(told), 6)
        for node in (0, 1, 4, 5):
            self.is_style(told[node], display="block")
        for node in (2, 3):
            self.is_style(told[node])

    def test_display(self):
        for name in ("page", "p", "list", "item", "row"):
            self.assertEqual(self.value("", f"<{name}>", 1, "display"), "block")
        self.assertEqual(self.value("", "<script>", 1, "display"), "none")
        for name in ("b", "a", "pp", "lists", "field", "check", "scripts", "text", "col"):
            self.assertEqual(self.value("", f"<{name}>", 1, "display"), "inline")

    def test_each_is_a_tuple_of_texts(self):
        told = styles(read('x<p look="pad: 3">y'), "p { margin: 2 }")
        self.assertIs(type(told), list)
        for style in told:
            self.assertEqual((type(style), [type(value) for value in style]), (tuple, [str] * 12))

    def test_each_property(self):
        for name, value in {**HANDED, **NOT_HANDED}.items():
            for looks, signs in ((f"b {{ {name}: {value} }}", "<b>"), ("", f'<b look="{name}: {value}">')):
                self.is_style(styles(read(signs), looks)[1], **{name: value})

    def test_all_at_once(self):
        told = {**HANDED, **NOT_HANDED}
        self.is_style(styles(read("<b>"), f"b {{ {look(told)} }}")[1], **told)
        self.is_style(styles(read(f'<b look="{look(told)}">'), "")[1], **told)

    def test_the_page(self):
        self.is_style(styles(read(""), "page { color: red; display: none; pad: 2 }")[0], color="red", display="none",
                      pad="2")


class Greatest(Styles):
    def test_strong_ones_ahead_of_others(self):
        self.colors("b { color: red ! }\nb#x { color: blue }", '<b id="x">', "black", "red")
        self.colors("b { color: red ! }", '<b look="color: blue">', "black", "red")
        self.colors("b { color: red !; color: blue }", "<b>", "black", "red")
        self.colors("", '<b look="color: red !; color: blue">', "black", "red")

    def test_strong_among_strong(self):
        self.colors("b { color: red ! }\nb { color: blue ! }", "<b>", "black", "blue")
        self.colors("#x { color: red ! }\nb { color: blue ! }", '<b id="x">', "black", "red")
        self.colors("b { color: red ! }", '<b look="color: blue !">', "black", "blue")

    def test_a_tags_own_look_ahead_of_rows(self):
        self.colors("#x#x#x { color: red }\n#x { color: green }", '<b id="x" look="color: blue">', "black", "blue")

    def test_weights(self):
        signs = '<b id="x" class="y z">'
        self.colors("#x { color: red }\nb.y.z[id]:first { color: blue }", signs, "black", "red")
        self.colors(".y { color: red }\npage b { color: blue }", signs, "black", "red")
        self.colors("b { color: red }\n* { color: blue }", signs, "blue", "red")
        self.colors("page b { color: red }\nb { color: blue }", signs, "black", "red")
        self.colors(".y.y { color: red }\n.z { color: blue }", signs, "black", "red")
        self.colors("page > b { color: red }\n* b { color: blue }", signs, "black", "red")
        self.colors(":first { color: red }\nb { color: blue }", signs, "red", "red")

    def test_each_tests_weight(self):
        for test in (".y", "[class]", "[id=x]", ":first"):
            signs = '<b id="x" class="y">'
            self.colors(f"b{test} {{ color: red }}\npage b {{ color: blue }}", signs, "black", "red")
            self.colors(f"#x {{ color: red }}\nb{test}{test} {{ color: blue }}", signs, "black", "red")

    def test_of_several_selectors_that_match_the_greatest(self):
        looks = "b, #x, page b { color: red }\nb.y { color: blue }"
        self.colors(looks, '<b id="x" class="y">', "black", "red")
        self.colors(looks, '<b class="y">', "black", "blue")
        self.colors("#x, b { color: red }\nb.y { color: blue }", '<b id="x" class="y">', "black", "red")
        self.colors("b, c#x#x { color: red }\n.y { color: blue }", '<b id="x" class="y">', "black", "blue")

    def test_one_of_several_selectors(self):
        self.colors("a, b { color: red }", "<b></b><a></a><c>", "black", "red", "red", "black")

    def test_the_later_row(self):
        self.colors("b { color: red }\nb { color: blue }", "<b>", "black", "blue")
        self.colors("b { color: red; color: green }\nb { color: blue }", "<b>", "black", "blue")
        self.colors("\n".join(["b { color: red }"] * 30 + ["b { color: blue }"]), "<b>", "black", "blue")

    def test_the_later_declaration(self):
        self.colors("b { color: red; color: blue }", "<b>", "black", "blue")
        self.colors("", '<b look="color: red; color: blue">', "black", "blue")
        twelve = "; ".join(["color: red"] * 11 + ["color: blue"])
        self.colors(f"b {{ {twelve} }}", "<b>", "black", "blue")

    def test_what_is_passed_over_gives_nothing(self):
        self.colors("b { color: red }\nb { color: rod }\nb {color: blue }", "<b>", "black", "red")
        self.colors("b { color: red; color: rod ! }", '<b look="color: blue;">', "black", "red")
        self.colors("b { color: red }", '<b look="color: x">', "black", "red")
        self.colors("b { color: red }", '<b look="">', "black", "red")
        self.colors("b { color: red }", '<b look="b { color: blue }">', "black", "red")

    def test_each_property_by_itself(self):
        style = styles(read('<b look="pad: 1">'), "b { pad: 2; margin: 3 ! }\n#x { margin: 4; border: 1 }\n* { back: red }")
        self.is_style(style[1], pad="1", margin="3", back="red")
        self.is_style(style[0], display="block", back="red")


class Inherited(Styles):
    def test_what_is_handed_down(self):
        told = styles(read("<a><b>x<c></c></b></a><d>"), f"a {{ {look(HANDED)} }}")
        for node in range(1, 5):
            self.is_style(told[node], **HANDED)
        self.is_style(told[0], display="block")
        self.is_style(told[5])

    def test_what_is_not(self):
        told = styles(read("<a>x<b>y"), f"a {{ {look(NOT_HANDED)} }}")
        self.is_style(told[1], **NOT_HANDED)
        self.is_style(told[3])

    def test_from_the_page(self):
        told = styles(read("<b><c>"), f"page {{ {look(HANDED)}; {look(NOT_HANDED)} }}")
        self.is_style(told[0], **HANDED, **NOT_HANDED)
        self.is_style(told[1], **HANDED)
        self.is_style(told[2], **HANDED)

    def test_one_of_its_own_ahead_of_what_is_handed_down(self):
        self.colors("a { color: red ! }\nb { color: blue }", "<a><b><c>", "black", "red", "blue", "blue")
        self.colors("a { color: red ! }\n* { color: blue }", "<a><c>", "blue", "red", "blue")

    def test_inherit(self):
        for name, value in {**HANDED, **NOT_HANDED}.items():
            looks = f"a {{ {name}: {value} }}\nb {{ {name}: inherit }}"
            told = styles(read("<a><b><b>x</b><c>y"), looks)
            for node in (1, 2, 3, 4):
                self.assertEqual(told[node][PROPERTIES.index(name)], value, name)
            self.is_style(told[5], **({name: value} if name in HANDED else {}))

    def test_inherit_ahead_of_others(self):
        self.colors("a { color: red }\nb { color: blue }\n.x { color: inherit }", '<a><b class="x">', "black", "red", "red")
        self.colors("a { color: red }\nb { color: inherit ! }", '<a><b look="color: blue">', "black", "red", "red")
        self.colors("a { color: red }\nb { color: inherit }\nb { color: blue }", "<a><b>", "black", "red", "blue")

    def test_inherit_of_what_is_not_declared(self):
        told = styles(read("<p><b>"), "b { display: inherit; pad: inherit; color: inherit }")
        self.is_style(told[2], display="block")
        self.is_style(styles(read("<b><p>"), "p { display: inherit }")[2])
        self.is_style(styles(read("<script>"), "script { display: inherit }")[1], display="block")

    def test_inherit_at_the_page(self):
        for name in PROPERTIES:
            told = styles(read("<b>"), f"page {{ {name}: inherit }}")
            self.is_style(told[0], display="block")
            self.is_style(told[1])
        self.is_style(styles(read(""), "page { color: red; color: inherit; pad: 3; pad: inherit }")[0], display="block")

    def test_texts(self):
        told = styles(read(f'<b look="{look({**HANDED, **NOT_HANDED})}">x<c></c>y</b>z'), "page { pad: 7 }")
        for node in (1, 2, 4):
            self.is_style(told[node], **HANDED, **NOT_HANDED)
        self.assertEqual(told[5], told[0])

    def test_the_text_of_a_script(self):
        told = styles(read("<script>say 1"), "script { pad: 2 }")
        self.is_style(told[2], display="none", pad="2")


class AnyPage(Styles):
    def test_as_found_in_another_way(self):
        chance = random.Random(17)
        for _ in range(1500):
            tree, looks = read(chance_page(chance, 14)), chance_looks(chance, 7)
            self.assertEqual(styles(tree, looks), [style for style, _ in plain_styles(tree, looks)], (tree, looks))

    def test_by_names(self):
        tree = page(tag("b", text("x")))
        self.assertEqual(styles(looks="b { pad: 2 }", tree=tree), styles(tree, "b { pad: 2 }"))

    def test_told_lists_are_the_askers_own(self):
        tree = read('<b look="pad: 3">x')
        before = styles(tree, "b { color: red }")
        told = styles(tree, "b { color: red }")
        told[1] = None
        told.pop()
        self.assertEqual(styles(tree, "b { color: red }"), before)

    def test_a_tree_is_as_it_was(self):
        tree = page(tag("b", text("x"), worths=(("look", "pad: 3"), ("class", "y"))))
        before = repr(tree)
        styles(tree, ".y { color: inherit }")
        self.assertEqual(repr(tree), before)

    def test_beyond_the_bounds(self):
        deep = styles(read("<b>" * 900 + "x"), "page { color: red }\nb b > b { pad: 1 }")
        self.is_style(deep[-1], color="red", pad="1")
        many = styles(read("<b></b>" * 300), "\n".join(["b { pad: 1 }"] * 90))
        self.assertEqual(len(many), 301)


if __name__ == "__main__":
    unittest.main()
