"""Short ways to write the trees and texts that tests take, and to go through a tree."""

import random

PIECES = ["<a>", "</a>", "<b>", "</b>", "<page>", "</page>", "<script>", "</script>", '<a x="1" x="2">',
          '<b y="&lt;&quot;>\n">', "<a", ' x="', '"', "</", ">", "<", "&lt;", "&amp;", "&", "lt;", "x", " ", "\n"]

# Pages and looks that meet one another often, with some rows and declarations that are passed over.
TAGS = ["<a>", "<b>", "<p>", "<list>", "<item>", "<page>", '<a class="x y">', '<b id="x">', '<p class="y" id="y">',
        '<a hide="x">', '<b hide="y" class="x  y">', '<item class="x\ny">', "<script>say 1</script>", "</a>", "</b>",
        "</p>", "</list>", "</item>", "x", "y", '<a look="color: red; pad: 3">', '<b look="color: inherit !; back: x">',
        '<p look="hide: yes ">', '<a look="display: none; display: block; layer: 2 !">', '<b look="width: 1/2">']
COMPOUNDS = ["a", "b", "p", "page", "list", "item", "script", "*", "#x", "#y", ".x", ".y", "[hide]", "[hide=x]",
             "[look]", ":first", "a.x", "b#x", "*:first", "a:first", "p.y#y", ".x.y", ".x.x", "a[hide=x]:first"]
VALUES = ["align: left", "align: right", "back: red", "back: inherit", "border: 1", "border: inherit", "color: red",
          "color: blue", "color: inherit", "display: none", "display: block", "display: inherit", "down: -3",
          "hide: yes", "hide: no", "hide: inherit", "layer: 3", "layer: inherit", "margin: 2", "pad: 20", "right: 50",
          "width: 1/2", "width: 40", "width: inherit", "color: clear", "colour: red", "pad: 21", "back: x y"]


def text(signs):
    return ("text", signs)


def tag(name, *children, worths=()):
    return ("tag", name, worths, children)


def page(*children):
    return tag("page", *children)


def nodes_in(tree):
    nodes = [tree]
    for child in tree[3] if tree[0] == "tag" else ():
        nodes.extend(nodes_in(child))
    return nodes


def chance_texts(many, pieces):
    """The same texts at each run, each of so many pieces at most."""
    chance = random.Random(7)
    return ["".join(chance.choices(PIECES, k=chance.randint(0, pieces))) for _ in range(many)]


def chance_page(chance, pieces):
    return "".join(chance.choices(TAGS, k=chance.randint(0, pieces)))


def chance_selector(chance):
    signs = chance.choice(COMPOUNDS)
    for _ in range(chance.choice((0, 0, 1, 1, 2, 3))):
        signs += chance.choice((" ", " ", " > ")) + chance.choice(COMPOUNDS)
    return signs


def chance_row(chance):
    selectors = [chance_selector(chance) for _ in range(chance.choice((1, 1, 2, 3)))]
    declarations = [chance.choice(VALUES) + chance.choice(("", "", "", " !")) for _ in range(chance.randint(1, 4))]
    return ", ".join(selectors) + " { " + "; ".join(declarations) + chance.choice((" }",) * 15 + ("}",))


def chance_looks(chance, rows):
    return "\n".join(chance_row(chance) for _ in range(chance.randint(1, rows)))


# Pages whose words and boxes meet on small boards.
LAID_TAGS = ["<b>", "<b>", "<em>", "<p>", "<p>", "<list>", "<item>", '<b class="x">', '<p class="x">', '<p id="y">',
             "<script>say 1</script>", "</b>", "</em>", "</p>", "</p>", "</list>", "</item>", "a", "bc", " ", "\n", "  ",
             "word", " of ", "longerword", "one two", '<b look="hide: yes">', '<p look="display: inline">',
             '<b look="display: block">', '<p look="right: 3; down: -2">', '<b look="back: red">']
LAID_VALUES = ["align: right", "align: center", "align: left", "back: red", "back: blue", "back: clear", "border: 1",
               "color: green", "display: none", "display: block", "display: inline", "down: -2", "down: 3", "hide: yes",
               "hide: no", "layer: 1", "layer: -2", "layer: 2", "margin: 1", "margin: 2", "margin: 3", "pad: 1",
               "pad: 2", "right: -3", "right: 2", "width: 1/2", "width: 2/3", "width: 6", "width: 0", "width: 30",
               "width: auto", "width: inherit", "margin: inherit", "border: 0"]
LAID_COMPOUNDS = ["page", "b", "em", "p", "list", "item", "*", ".x", "#y", "p p", "p > b", "list > *", "b b", "script",
                  ":first", "p:first"]


def chance_laid_page(chance, pieces):
    return "".join(chance.choices(LAID_TAGS, k=chance.randint(0, pieces)))


def chance_laid_looks(chance, rows):
    told = []
    for _ in range(chance.randint(0, rows)):
        declarations = "; ".join(chance.sample(LAID_VALUES, chance.randint(1, 4)))
        told.append(f"{chance.choice(LAID_COMPOUNDS)} {{ {declarations} }}")
    return "\n".join(told)
