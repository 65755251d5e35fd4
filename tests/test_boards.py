import unittest

from freshpage.boards import board, hit, painter
from freshpage.reader import read
from freshpage.units import units

COLORS = {"black": "k", "red": "r", "green": "g", "blue": "b", "clear": "."}


class Units(unittest.TestCase):
    def are(self, signs, looks, *told, width=20):
        tree = read(signs)
        self.assertEqual(units(tree, looks, width=width), list(told), (signs, looks))

    def test_boxes(self):
        self.are("<p></p>", "p { back: red }", ("box", 1, (0, 0, 20, 0)))
        self.are("<p></p>", "p { border: 1 }", ("box", 1, (0, 0, 20, 2)))
        self.are("<p></p>", "p { pad: 2 }")
        self.are("<p></p>", "p { back: clear; border: 0 }")
        self.are("", "page { back: black }", ("box", 0, (0, 0, 20, 0)))
        self.are("<b></b>", "b { back: red; border: 1 }")

    def test_boxes_of_no_cells(self):
        self.are("<p></p>", "p { back: red; width: 0 }", ("box", 1, (0, 0, 0, 0)))
        self.are("<p>a</p>", "p { back: red; width: 0 }", ("box", 1, (0, 0, 0, 1)), ("signs", 2, (0, 0), "a"))

    def test_rows_of_signs(self):
        self.are("a b", "", ("signs", 1, (0, 0), "a b"))
        self.are("a  b", "", ("signs", 1, (0, 0), "a b"))
        self.are("a <b>c</b> d", "", ("signs", 1, (0, 0), "a "), ("signs", 3, (2, 0), "c"), ("signs", 4, (3, 0), " d"))
        self.are("a b c", "", ("signs", 1, (0, 0), "a b"), ("signs", 1, (0, 1), "c"), width=3)
        self.are("abc", "", ("signs", 1, (0, 0), "a"), ("signs", 1, (0, 1), "b"), ("signs", 1, (0, 2), "c"), width=1)
        self.are("a<b> </b>c", "", ("signs", 1, (0, 0), "a"), ("signs", 3, (1, 0), " "), ("signs", 4, (2, 0), "c"))
        self.are(" \n", "")

    def test_levels_are_sums(self):
        self.are("<p>a</p><p>b</p>", "p:first { layer: 1 }", ("signs", 4, (0, 1), "b"), ("signs", 2, (0, 0), "a"))
        looks = "p { layer: 2 }\nb { layer: -3 }\nem { layer: 1 }"
        self.are("<p>a<b>c<em>d</em></b></p>e", looks, ("signs", 4, (1, 0), "c"), ("signs", 6, (2, 0), "d"),
                 ("signs", 7, (0, 1), "e"), ("signs", 2, (0, 0), "a"))

    def test_below_zero(self):
        self.are("<p>a</p>b", "p { layer: -1; back: red }", ("box", 1, (0, 0, 20, 1)), ("signs", 2, (0, 0), "a"),
                 ("signs", 3, (0, 1), "b"))
        self.are("<p>a</p>b", "p { back: red }\npage { layer: 9 }", ("box", 1, (0, 0, 20, 1)), ("signs", 2, (0, 0), "a"),
                 ("signs", 3, (0, 1), "b"))
        self.are("a<p>b", "p { layer: -1 }\npage { layer: 9 }", ("signs", 3, (0, 1), "b"), ("signs", 1, (0, 0), "a"))

    def test_ties(self):
        looks = "p { back: red }"
        self.are("a<p>b", looks, ("signs", 1, (0, 0), "a"), ("box", 2, (0, 1, 20, 1)), ("signs", 3, (0, 1), "b"))
        looks = "p { back: red; layer: 1 }\nb { layer: 1 }"
        self.are("<b>a b</b><p></p>", looks, ("signs", 2, (0, 0), "a"), ("signs", 2, (0, 1), "b"), ("box", 3, (0, 2, 1, 0)),
                 width=1)

    def test_hidden(self):
        self.are("<p>a</p>b", "p { hide: yes; back: red }", ("signs", 3, (0, 1), "b"))
        self.are("<p>a<b>c</b></p>", "p { hide: yes; back: red }\nb { hide: no }", ("signs", 4, (1, 0), "c"))
        self.are("a<b>c</b>", "b { hide: yes }", ("signs", 1, (0, 0), "a"))
        self.are("<p><item>a", "page { hide: yes }\nitem { hide: no; border: 1 }", ("box", 2, (0, 0, 20, 3)),
                 ("signs", 3, (1, 1), "a"))

    def test_as_moved_and_beyond_the_board(self):
        self.are("<p>ab", "p { right: -50; down: 50; back: red }", ("box", 1, (-50, 50, 20, 1)), ("signs", 2, (-50, 50), "ab"))

    def test_handed(self):
        tree = read("<p>a")
        told = [("box", 1, (0, 0, 40, 1)), ("signs", 2, (0, 0), "a")]
        self.assertEqual(units(tree, "p { back: red }"), told)
        self.assertEqual(units(looks="p { back: red }", tree=tree), told)
        changed = units(width=40, looks="p { back: red }", tree=tree)
        changed.clear()
        self.assertEqual(units(tree, "p { back: red }"), told)
        with self.assertRaises(TypeError):
            units(tree, "", 40)


class Painted(unittest.TestCase):
    def paints(self, signs, looks, width, *rows):
        """Each row its signs, their colors and their backs; blanks that nobody colors are black."""
        told = board(read(signs), looks, width=width)
        found = []
        for row in told:
            found.append(" ".join(["".join(sign for sign, _, _ in row), "".join(COLORS[color] for _, color, _ in row),
                                   "".join(COLORS[back] for _, _, back in row)]))
        self.assertEqual(found, list(rows), (signs, looks))


class Boards(Painted):
    def test_bare_cells(self):
        self.assertEqual(board(read("a"), "", width=2), [[("a", "black", "clear"), (" ", "black", "clear")]])
        self.assertEqual(board(read(""), "", width=2), [])
        self.paints("", "page { pad: 1 }\npage { color: red }", 3, "    kkk ...", "    kkk ...")

    def test_boxes(self):
        self.paints("<p></p>", "p { back: red; pad: 1; color: blue; width: 1 }", 4, "     kkkk rrr.", "     kkkk rrr.")
        self.paints("<p></p>", "p { border: 1; pad: 1; color: blue; width: 1 }", 6,
                    "#####  bbbbbk ......", "#   #  bkkkbk ......", "#   #  bkkkbk ......", "#####  bbbbbk ......")
        self.paints("<p></p>", "p { border: 1; back: green; width: 1 }", 4, "###  kkkk ggg.", "###  kkkk ggg.")

    def test_boxes_of_one_row_and_one_column(self):
        self.paints("<p>a</p>", "p { back: red; width: 1; color: green }", 2, "a  gk r.")
        self.paints("<p>a</p>", "p { back: red; width: 3; color: green }", 4, "a    gkkk rrr.")
        self.paints("<p>a b</p>", "p { back: red; width: 1; color: green }", 2, "a  gk r.", "b  gk r.")
        self.paints("<p></p>", "p { border: 1; width: 0 }", 3, "##  kkk ...", "##  kkk ...")
        self.paints("<p>a</p>", "p { border: 1; width: 0; back: red }", 3, "##  kkk rr.", "#a  kkk rr.", "##  kkk rr.")
        self.paints("<p>a</p>", "p { back: red; width: 0 }", 2, "a  kk ..")

    def test_backs_and_borders_over_one_another(self):
        looks = "p { back: red; pad: 1 }\nitem { border: 1; color: blue }"
        self.paints("<p><item>a", looks, 5, "      kkkkk rrrrr", " ###  kbbbk rrrrr", " #a#  kbbbk rrrrr", " ###  kbbbk rrrrr",
                    "      kkkkk rrrrr")
        looks = "p { back: red; border: 1; color: green }\nitem { back: blue; right: -1; down: -1 }"
        self.paints("<p><item>x</item></p>", looks, 4, "x ## gkgg bbrr", "#  # gkkg rrrr", "#### gggg rrrr")

    def test_the_border_keeps_the_backs(self):
        looks = "p { back: red }\nitem { border: 1; color: green }"
        self.paints("<p><item></item></p>", looks, 3, "### ggg rrr", "### ggg rrr")
        looks = "p { back: red; right: 1 }\nitem { border: 1; down: -1; color: blue }"
        self.paints("<p>a b</p><item></item>", looks, 3, "### bbb .rr", "### bbb ...", "    kkk ...")

    def test_a_back_over_signs_and_a_border(self):
        looks = "item { back: blue; down: -1; layer: 1; color: red }"
        self.paints("ab<item>c</item>", looks, 3, "c   rkk bbb", "    kkk ...")
        looks = "p { border: 1 }\nitem { back: blue; down: -1; pad: 1; color: red }"
        self.paints("<p></p><item></item>", looks, 2, "## kk ..", "   kk bb", "   kk bb", "   kk ..")

    def test_partly_beyond_each_side(self):
        for right, down, *rows in ((0, 0, "###", "#ab", "###"), (-1, 0, "###", "ab#", "###"), (-3, 0, "#  ", "#  ", "#  "),
                                   (1, 0, " ##", " #a", " ##"), (2, 0, "  #", "  #", "  #"), (0, -1, "#ab", "###", "   "),
                                   (0, 1, "   ", "###", "#ab"), (-1, -2, "###", "   ", "   "), (2, 2, "   ", "   ", "  #")):
            looks = f"p {{ border: 1; width: 2; right: {right}; down: {down} }}"
            told = board(read("<p>ab</p>"), looks, width=3)
            self.assertEqual(["".join(sign for sign, _, _ in row) for row in told], rows, looks)

    def test_wholly_beyond(self):
        for right, down in ((-50, 0), (50, 0), (0, -50), (0, 50), (-50, -50), (50, 50)):
            looks = f"p {{ border: 1; back: red; right: {right}; down: {down} }}"
            self.paints("<p>ab</p>", looks, 4, "     kkkk ....", "     kkkk ....", "     kkkk ....")

    def test_wider_than_the_board(self):
        self.paints("<p>ab cd</p>", "p { width: 7; back: red }", 4, "ab c kkkk rrrr")

    def test_colors(self):
        self.paints("a<b>c<em>d</em></b>", "b { color: red }\nem { color: blue }\npage { color: green }", 4,
                    "acd  grbk ....")

    def test_the_backs_of_signs(self):
        self.paints("a<b>c<em>d</em></b>", "b { back: red }", 4, "acd  kkkk .rr.")
        self.paints("a<b>c<em>d</em></b>", "b { back: red }\nem { back: blue }", 4, "acd  kkkk .rb.")
        self.paints("a<b>c<em>d</em></b>", "em { back: blue }", 4, "acd  kkkk ..b.")
        self.paints("<b>a <em> </em> c</b>", "em { back: blue }", 4, "a c  kkkk ....")
        self.paints("<b>a<em> </em> c</b>", "em { back: blue }\nb { back: red }", 4, "a c  kkkk rbr.")

    def test_hide_is_not_asked_of_backs(self):
        self.paints("<b>c<em>d</em></b>", "b { back: red; hide: yes }\nem { hide: no }", 3, " d  kkk .r.")
        self.paints("<b>c</b>", "b { back: red; hide: yes }", 2, "   kk ..")

    def test_a_blocks_back_below_signs(self):
        self.paints("<p>a<b>c</b></p>", "p { back: red }", 3, "ac  kkk rrr")
        self.paints("<p>a<b>c</b></p>", "p { back: red }\nb { back: blue }", 3, "ac  kkk rbr")
        self.paints("<b>x<p>a</p></b>", "b { back: red }\np { back: blue }", 2, "x  kk rr", "a  kk bb")

    def test_a_back_above_another_block_behind_hidden_ones(self):
        looks = "p { hide: yes; back: red }\nb { hide: no }"
        self.paints("<p>a<b>c</b></p>", looks, 3, " c  kkk ...")

    def test_told_boards_are_the_askers_own(self):
        tree = read("ab")
        told = board(tree, "", width=2)
        told[0][0] = ("x", "red", "red")
        told[0].append(1)
        told.append([])
        self.assertEqual(board(tree, "", width=2), [[("a", "black", "clear"), ("b", "black", "clear")]])

    def test_rows_are_no_two_one(self):
        told = board(read("<p></p>"), "p { pad: 2 }", width=2)
        told[0][0] = 1
        self.assertEqual(told[1][0], (" ", "black", "clear"))

    def test_by_names(self):
        tree = read("a")
        self.assertEqual(len(board(tree, "")[0]), 40)
        self.assertEqual(board(width=1, looks="", tree=tree), [[("a", "black", "clear")]])
        with self.assertRaises(TypeError):
            board(tree, "", 9)


class Asked(unittest.TestCase):
    def hits(self, signs, looks, width, *rows):
        tree = read(signs)
        told = []
        for y in range(len(board(tree, looks, width=width))):
            nodes = [hit(tree, looks, x, y, width=width) for x in range(width)]
            told.append("".join("." if node is None else str(node) for node in nodes))
        self.assertEqual(told, list(rows), (signs, looks))

    def paints(self, signs, looks, width, *rows):
        tree = read(signs)
        told = []
        for y in range(len(board(tree, looks, width=width))):
            nodes = [painter(tree, looks, x, y, width=width) for x in range(width)]
            told.append("".join("." if node is None else str(node) for node in nodes))
        self.assertEqual(told, list(rows), (signs, looks))


class Hits(Asked):
    def test_boxes_without_back_and_border(self):
        self.hits("<p></p>", "p { pad: 1; width: 1 }", 4, "1110", "1110")
        self.hits("<p><item></item></p>", "p { pad: 1 }\nitem { pad: 1; width: 0 }", 5, "11111", "12211", "12211", "11111")

    def test_signs_hit_their_parent(self):
        self.hits("a<b>c</b>", "", 3, "020")
        self.hits("<p>a<b>c</b></p>", "", 3, "131")

    def test_hidden_ones(self):
        self.hits("<p>a</p>", "p { hide: yes }", 2, "00")
        self.hits("<p>a</p>", "page { hide: yes }", 2, "..")
        self.hits("<p>a<b>c</b></p>", "page { hide: yes }\nb { hide: no }", 3, ".3.")

    def test_layers(self):
        self.hits("<p>a</p><item>b</item>", "item { down: -1 }", 2, "33", "00")
        self.hits("<p>a</p><item>b</item>", "item { down: -1 }\np { layer: 1 }", 2, "11", "00")
        self.hits("<p>a</p><item>b</item>", "item { layer: -1 }", 2, "11", "00")
        self.hits("<b>a</b>c", "b { layer: -1 }", 3, "000")

    def test_where_no_box_lies(self):
        self.hits("<p></p>", "page { margin: 1; width: 1 }\np { pad: 1; width: 0; right: 1 }", 4, "....", ".011",
                  ".011", "....")

    def test_corners_and_beyond(self):
        tree = read("<p></p>")
        looks = "p { pad: 1; width: 1; margin: 1 }"
        for x, y, told in ((1, 1, 1), (3, 1, 1), (1, 2, 1), (3, 2, 1), (0, 0, 0), (4, 2, 0), (4, 3, 0), (5, 3, None), (4, 4, None),
                           (-1, 0, None), (0, -1, None), (10 ** 19, 0, None), (0, -10 ** 19, None), (0, 1, 0), (1, 0, 0)):
            self.assertEqual(hit(tree, looks, x, y, width=5), told, (x, y))

    def test_what_lies_beyond_the_board(self):
        tree = read("<p>ab</p>")
        for x, y in ((3, 0), (4, 0), (-1, 0)):
            self.assertIsNone(hit(tree, "p { right: 3 }", x, y, width=3))
            self.assertIsNone(painter(tree, "p { right: 3; back: red }", x, y, width=3))

    def test_by_names(self):
        tree = read("<p>a</p>")
        self.assertEqual(hit(y=0, x=39, looks="", tree=tree), 1)
        self.assertIsNone(hit(tree, "", 40, 0))
        self.assertEqual(hit(tree, "", width=50, y=0, x=45), 1)


class Painters(Asked):
    def test_boxes(self):
        self.paints("<p></p>", "p { pad: 1; width: 1 }", 4, "....", "....")
        self.paints("<p></p>", "p { pad: 1; width: 1; back: red }", 4, "111.", "111.")
        self.paints("<p></p>", "p { pad: 1; width: 1; border: 1 }", 6, "11111.", "1...1.", "1...1.", "11111.")
        self.paints("<p></p>", "p { pad: 1; width: 1; border: 1; back: red }", 6, *["11111."] * 4)

    def test_signs_are_a_texts_own(self):
        self.paints("a<b>c</b>", "", 3, "13.")
        self.paints("a <b>c</b>", "b { back: red }", 4, "113.")
        self.paints("<p>a</p>", "p { back: red }", 2, "21")

    def test_a_box_through_whose_middle_another_shows(self):
        looks = "item { border: 1; pad: 1; width: 1; down: -1 }"
        self.paints("abc<item></item>", looks, 5, "22222", "2...2", "2...2", "22222", ".....")
        looks = "item { border: 1; pad: 1; width: 0; down: -4 }"
        self.paints("abcd efgh ijkl mnop<item></item>", looks, 4, "2222", "2112", "2112", "2222", *["...."] * 4)

    def test_hidden_and_none(self):
        self.paints("<p>a</p>b", "p { hide: yes; back: red }", 2, "..", "3.")
        self.assertIsNone(painter(read(""), "", 0, 0, width=5))
        self.assertIsNone(painter(read("a"), "", -1, 0, width=5))

    def test_by_names(self):
        tree = read("<p>a</p>")
        self.assertEqual(painter(y=0, x=0, looks="", tree=tree), 2)
        self.assertIsNone(painter(tree, "", 1, 0))
        self.assertEqual(painter(tree, "p { back: red }", 9, 0, width=10), 1)
        self.assertIsNone(painter(tree, "p { back: red }", 10, 0, width=10))


class AskedAgain(unittest.TestCase):
    def test_behind_other_pages(self):
        tree, looks = read("<p>a b</p>c"), "p { border: 1; back: red; width: 3 }"
        before = repr(tree)

        def all_told():
            cells = [(hit(tree, looks, x, y, width=6), painter(tree, looks, x, y, width=6)) for y in range(4) for x in range(6)]
            return board(tree, looks, width=6), units(tree, looks, width=6), cells

        ahead = all_told()
        for k in range(1, 15):
            board(read(f"<p>{'x ' * k}</p>"), looks, width=6)
            units(tree, looks, width=6 + k)
            hit(tree, f"p {{ pad: {k} }}", 0, 0, width=6)
            painter(read("<p>b</p>"), looks, 0, 0, width=6)
            if k % 3 == 0:
                self.assertEqual(all_told(), ahead)
        self.assertEqual(all_told(), ahead)
        self.assertEqual(repr(tree), before)

    def test_trees_that_are_equal(self):
        for _ in range(3):
            self.assertEqual(hit(read("<p>a</p>"), "", 0, 0), 1)
            self.assertEqual(painter(read("<p>b</p>"), "", 0, 0), 2)
            self.assertEqual(board(read("<p>b</p>"), "", width=1), [[("b", "black", "clear")]])


if __name__ == "__main__":
    unittest.main()
