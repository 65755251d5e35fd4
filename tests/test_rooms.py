import unittest

from freshpage.boards import board
from freshpage.reader import read
from freshpage.rooms import WIDTH, kinds_of, page_high, rooms


class Laid(unittest.TestCase):
    def stands(self, signs, looks, *told, width=20):
        """The rooms of the nodes, the page's apart."""
        self.assertEqual(rooms(read(signs), looks, width=width)[1:], list(told), (signs, looks))

    def is_high(self, signs, looks, high, width=20):
        self.assertEqual(page_high(read(signs), looks, width=width), high)
        self.assertEqual(len(board(read(signs), looks, width=width)), high)


class Kinds(unittest.TestCase):
    def are(self, signs, looks, told):
        kinds = kinds_of(read(signs), looks)
        self.assertEqual("".join({"block": "b", "lines": "l", None: "-"}[kind] for kind in kinds), told, (signs, looks))

    def test_plain_kinds(self):
        for name in ("page", "p", "list", "item", "row"):
            self.are(f"<{name}>", "", "bb")
        for name in ("b", "em", "check", "field", "pag", "rows"):
            self.are(f"<{name}>", "", "bl")
        self.are("<script>x</script>", "", "b--")

    def test_put_by_looks(self):
        self.are("<b>x</b>", "b { display: block }", "bbl")
        self.are("<p>x</p>", "p { display: inline }", "bll")
        self.are("<p>x<b>y</b></p>", "p { display: none }", "b----")
        self.are('<b look="display: block">', "", "bb")
        self.are("<p><b>", "b { display: inherit }", "bbb")

    def test_the_page_itself(self):
        for display in ("none", "inline", "block", "inherit"):
            self.are("a<p>b", f"page {{ display: {display} }}", "blbl")
        self.are("a<page>b", "page { display: none }", "bl--")

    def test_a_script_put_to_block(self):
        self.are("<script>x</script>", "script { display: block }", "b--")
        self.are("<b><script>x</script></b>", "* { display: block }", "bb--")

    def test_within_none(self):
        self.are("<b>x<p>y</p></b>z", "b { display: none }", "b----l")
        self.are("<b><em><p>y</p></em></b>", "em { display: none }", "bl---")
        self.are("<b><p>y</p></b>", "p { display: none }", "bl--")

    def test_a_tag_with_a_block_far_within(self):
        self.are("<b><em><em>x<p>y</p></em></em></b>", "", "bbbblbl")
        self.are("<b><em>x</em><em><p>y</p></em></b>", "", "bbllbbl")
        self.are("<p><b><p>x</p></b></p>", "p { display: inline }", "bllll")

    def test_a_page_of_no_children(self):
        self.are("", "", "b")

    def test_texts(self):
        self.are("x", "", "bl")
        self.are(" ", "", "bl")
        self.are("<p>x</p>y", "* { display: block }", "bbll")

    def test_by_names(self):
        tree = read("<p>x</p>")
        told = kinds_of(looks="", tree=tree)
        told.append("x")
        self.assertEqual(kinds_of(tree=tree, looks=""), ["block", "block", "lines"])


class Widths(Laid):
    def test_auto(self):
        self.stands("<p>", "p { margin: 1; border: 1; pad: 2 }", (1, 1, 18, 6))
        self.stands("<p>", "p { margin: 2 }", (2, 2, 16, 0))
        self.stands("<p>", "p { margin: 10 }", (10, 10, 0, 0))
        self.stands("<p>", "p { margin: 11; pad: 1 }", (11, 11, 2, 2))

    def test_a_number(self):
        self.stands("<p>", "p { width: 5; margin: 1; border: 1; pad: 2 }", (1, 1, 11, 6))
        self.stands("<p>", "p { width: 200 }", (0, 0, 200, 0))
        self.stands("<p>", "p { width: 0 }", (0, 0, 0, 0))
        self.stands("<p>ab", "p { width: 0 }", (0, 0, 0, 2), (0, 0, 1, 2))

    def test_a_part(self):
        self.stands("<p>", "p { width: 1/3 }", (0, 0, 6, 0))
        self.stands("<p>", "p { width: 11/12 }", (0, 0, 18, 0))
        self.stands("<p>", "p { width: 12/12; pad: 1; margin: 1 }", (1, 1, 22, 2))
        self.stands("<p><p>", "p { width: 1/2 }", (0, 0, 10, 0), (0, 0, 5, 0))

    def test_an_available_width_of_0(self):
        self.stands("<p><item>ab", "p { width: 0 }\nitem { pad: 1 }", (0, 0, 0, 4), (0, 0, 2, 4), (1, 1, 1, 2))
        self.stands("<p><item>", "p { width: 0 }\nitem { width: 1/2; border: 1 }", (0, 0, 0, 2), (0, 0, 2, 2))

    def test_the_page(self):
        told = rooms(read("<p>"), "page { margin: 2; pad: 1 }", width=20)
        self.assertEqual(told, [(2, 2, 16, 2), (3, 3, 14, 0)])
        told = rooms(read("<p>"), "page { width: 1/2; border: 1 }", width=20)
        self.assertEqual(told, [(0, 0, 12, 2), (1, 1, 10, 0)])

    def test_other_widths_of_the_board(self):
        for width in (1, 2, 119, 120):
            self.stands("<p>", "", (0, 0, width, 0), width=width)


class Rows(Laid):
    def test_lines_and_blocks(self):
        self.stands("a<p>b</p>c", "", (0, 0, 1, 1), (0, 1, 20, 1), (0, 1, 1, 1), (0, 2, 1, 1))
        self.stands("a b c", "", (0, 0, 1, 3), width=1)

    def test_margins_of_blocks_that_follow_one_another(self):
        looks = "p { margin: 1 }\nitem { margin: 3 }"
        self.stands("<p></p><p></p>", looks, (1, 1, 18, 0), (1, 2, 18, 0))
        self.stands("<p></p><item></item><p></p>", looks, (1, 1, 18, 0), (3, 4, 14, 0), (1, 7, 18, 0))
        self.is_high("<p></p><item></item><p></p>", looks, 8)
        self.is_high("<p></p><item></item>", looks, 7)

    def test_of_a_block_behind_a_flow_and_ahead_of_one(self):
        looks = "p { margin: 2 }"
        self.stands("a<p></p>b", looks, (0, 0, 1, 1), (2, 3, 16, 0), (0, 5, 1, 1))
        self.is_high("a<p></p>b", looks, 6)
        self.is_high("a<p></p>", looks, 5)

    def test_a_flow_that_is_passed_over_parts_no_margins(self):
        looks = "p { margin: 2 }\nitem { margin: 1 }"
        for between in ("", " ", "\n \n", "<b></b>", " <b> </b>", "<script>x</script>", " <script>x</script> "):
            tree = read(f"<p></p>{between}<item></item>")
            told = [room for room in rooms(tree, looks, width=20)[1:] if room]
            self.assertEqual(told, [(2, 2, 16, 0), (1, 4, 18, 0)], between)
            self.assertEqual(page_high(tree, looks, width=20), 5)
        self.is_high("<p></p> ", looks, 4)
        self.is_high(" <p></p>", looks, 4)

    def test_what_is_not_laid_parts_no_flow(self):
        self.stands("a <script>x</script>b", "", (0, 0, 2, 1), None, None, (2, 0, 1, 1))
        self.stands("a <p>x</p>b", "p { display: none }", (0, 0, 2, 1), None, None, (2, 0, 1, 1))

    def test_margins_within_stay_within(self):
        looks = "p { margin: 1 }"
        self.stands("<p><p></p></p>", looks, (1, 1, 18, 2), (2, 2, 16, 0))
        self.is_high("<p><p></p></p>", looks, 4)

    def test_border_and_pad(self):
        looks = "p { border: 1; pad: 1 }"
        self.stands("<p>a<p>b</p></p>", looks, (0, 0, 20, 10), (2, 2, 1, 1), (2, 3, 16, 5), (4, 5, 1, 1))

    def test_the_page(self):
        self.is_high("a", "page { margin: 2 }", 5)
        self.is_high("a", "page { margin: 2; border: 1; pad: 3 }", 13)
        self.is_high("", "", 0)
        self.is_high("", "page { margin: 20 }", 40)
        self.assertEqual(rooms(read("a"), "page { margin: 2 }", width=20), [(2, 2, 16, 1), (2, 2, 1, 1)])

    def test_a_block_of_display_inline_has_its_own_sizes(self):
        looks = "b { margin: 1; border: 1; pad: 1; width: 8; align: right }"
        self.stands("<b>x<p>y</p></b>", looks, (1, 1, 12, 6), (10, 3, 1, 1), (3, 4, 8, 1), (10, 4, 1, 1))
        self.stands("<b>x</b>", looks, (0, 0, 1, 1), (0, 0, 1, 1))


class Aligns(Laid):
    def test_by_the_blocks_align(self):
        self.stands("<p>abc", "p { align: left }", (0, 0, 20, 1), (0, 0, 3, 1))
        self.stands("<p>abc", "p { align: right }", (0, 0, 20, 1), (17, 0, 3, 1))
        self.stands("<p>abc", "p { align: center }", (0, 0, 20, 1), (8, 0, 3, 1))
        self.stands("<p>abcd", "p { align: center }", (0, 0, 20, 1), (8, 0, 4, 1))

    def test_a_tag_in_lines_aligns_nothing(self):
        self.stands("<b>abc", "b { align: right }", (0, 0, 3, 1), (0, 0, 3, 1))

    def test_it_is_handed_down_to_blocks(self):
        self.stands("<p><item>ab", "p { align: right }", (0, 0, 20, 1), (0, 0, 20, 1), (18, 0, 2, 1))

    def test_each_line_by_itself(self):
        self.stands("ab c", "page { align: right }", (1, 0, 2, 2), width=3)
        self.stands("ab<b>cde</b>", "page { align: right }", (0, 0, 2, 1), (1, 0, 2, 2), (1, 0, 2, 2), width=3)

    def test_a_content_of_no_width(self):
        for align in ("left", "right", "center"):
            self.stands("<p>ab", f"p {{ width: 0; align: {align} }}", (0, 0, 0, 2), (0, 0, 1, 2))


class Moves(Laid):
    def test_a_block(self):
        self.stands("<p>a</p>b", "p { right: 3; down: -2 }", (3, -2, 20, 1), (3, -2, 1, 1), (0, 1, 1, 1))
        self.is_high("<p>a</p>b", "p { right: 50; down: 50 }", 2)
        self.is_high("<p>a</p>b", "p { right: -50; down: -50 }", 2)

    def test_blocks_within_one_another(self):
        looks = "p { right: 2; down: 1 }"
        self.stands("<p><p>a</p></p><item>b", looks, (2, 1, 20, 1), (4, 2, 20, 1), (4, 2, 1, 1), (0, 1, 20, 1), (0, 1, 1, 1))

    def test_the_page(self):
        tree = read("a<p>b</p>")
        told = rooms(tree, "page { right: 5; down: 4; margin: 1 }", width=20)
        self.assertEqual(told, [(6, 5, 18, 2), (6, 5, 1, 1), (6, 6, 18, 1), (6, 6, 1, 1)])
        self.assertEqual(page_high(tree, "page { right: 5; down: 4; margin: 1 }", width=20), 4)

    def test_a_tag_in_lines_is_not_moved(self):
        self.stands("a<b>c</b>", "b { right: 5; down: 4 }", (0, 0, 1, 1), (1, 0, 1, 1), (1, 0, 1, 1))

    def test_what_is_in_lines_is_moved_by_blocks_around(self):
        self.stands("<p>a<b>c</b></p>", "p { right: 5 }", (5, 0, 20, 1), (5, 0, 1, 1), (6, 0, 1, 1), (6, 0, 1, 1))


class RoomsInLines(Laid):
    def test_over_several_lines_at_different_places(self):
        self.stands("aaa <b>bb cc</b>", "", (0, 0, 4, 1), (0, 0, 6, 2), (0, 0, 6, 2), width=6)
        self.stands("aaa <b>bb cc dd</b> e", "", (0, 0, 4, 1), (0, 0, 6, 2), (0, 0, 6, 2), (0, 2, 1, 1), width=6)

    def test_a_blank_counts_as_a_sign(self):
        self.stands("a<b> </b>c", "", (0, 0, 1, 1), (1, 0, 1, 1), (1, 0, 1, 1), (2, 0, 1, 1))

    def test_none(self):
        self.stands("a <b> </b> c", "", (0, 0, 2, 1), None, None, (2, 0, 1, 1))
        self.stands(" ", "", None)
        self.stands("<b></b>", "", None)
        self.stands("<b><em> </em></b>", "", None, None, None)
        self.stands("<script>x</script>", "", None, None)
        self.stands("<p>x</p>", "p { display: none }", None, None)
        self.stands("aa<b> </b>bb", "", (0, 0, 2, 1), None, None, (0, 1, 2, 1), width=2)

    def test_a_tag_has_all_within(self):
        self.stands("<b>a<em>b</em>c</b>", "", (0, 0, 3, 1), (0, 0, 1, 1), (1, 0, 1, 1), (1, 0, 1, 1), (2, 0, 1, 1))


class Handed(unittest.TestCase):
    TREE = read("<p>a b</p>c")
    LOOKS = "p { margin: 1 }"

    def test_width_left_out(self):
        self.assertEqual((type(WIDTH), WIDTH), (int, 40))
        self.assertEqual(rooms(self.TREE, self.LOOKS)[0], (0, 0, 40, 4))
        self.assertEqual(rooms(self.TREE, self.LOOKS), rooms(self.TREE, self.LOOKS, width=40))
        self.assertEqual(page_high(self.TREE, self.LOOKS), page_high(self.TREE, self.LOOKS, width=40))

    def test_by_names(self):
        told = [(0, 0, 9, 4), (1, 1, 7, 1), (1, 1, 3, 1), (0, 3, 1, 1)]
        self.assertEqual(rooms(width=9, looks=self.LOOKS, tree=self.TREE), told)
        self.assertEqual(rooms(self.TREE, width=9, looks=self.LOOKS), told)
        self.assertEqual(page_high(width=1, looks=self.LOOKS, tree=self.TREE), 5)

    def test_width_by_its_place_is_none(self):
        for function in (rooms, page_high):
            with self.assertRaises(TypeError):
                function(self.TREE, self.LOOKS, 9)

    def test_told_lists_are_new(self):
        before = repr(self.TREE)
        told = rooms(self.TREE, self.LOOKS)
        told[0] = None
        told.append(1)
        self.assertEqual(rooms(self.TREE, self.LOOKS)[0], (0, 0, 40, 4))
        self.assertEqual(len(rooms(self.TREE, self.LOOKS)), 4)
        kinds_of(self.TREE, self.LOOKS).clear()
        self.assertEqual(len(kinds_of(self.TREE, self.LOOKS)), 4)
        self.assertEqual(repr(self.TREE), before)

    def test_asked_again_behind_others(self):
        ahead = rooms(self.TREE, self.LOOKS, width=9)
        for k in range(20):
            rooms(read("<p>x</p>" * k), self.LOOKS, width=9)
            rooms(self.TREE, f"p {{ pad: {k} }}", width=9)
            rooms(self.TREE, self.LOOKS, width=10 + k)
            self.assertEqual(rooms(self.TREE, self.LOOKS, width=9), ahead)


if __name__ == "__main__":
    unittest.main()
