import unittest

from freshpage.lines import lines_of


def signs(*parts):
    """The signs of texts, by their nodes' numbers: signs((1, "ab"), (3, "c"))."""
    return [(sign, node) for node, part in parts for sign in part]


class Lines(unittest.TestCase):
    def fills(self, text, wide, *lines):
        told = lines_of(signs((1, text)), wide)
        self.assertEqual(["".join(sign for sign, _ in line) for line in told], list(lines), (text, wide))
        self.assertTrue(all(node == 1 for line in told for _, node in line))
        self.assertEqual((type(told), {type(line) for line in told} | {list}), (list, {list}))


class Words(Lines):
    def test_words_in_turn(self):
        self.fills("a b c", 5, "a b c")
        self.fills("a b c", 4, "a b", "c")
        self.fills("a b c", 3, "a b", "c")
        self.fills("a b c", 2, "a", "b", "c")
        self.fills("a b c", 1, "a", "b", "c")
        self.fills("aa b cc", 4, "aa b", "cc")

    def test_a_blank_and_a_word_both_have_room(self):
        self.fills("abc de", 6, "abc de")
        self.fills("abc de", 5, "abc", "de")

    def test_as_long_as_the_line_and_one_longer(self):
        self.fills("abcd", 4, "abcd")
        self.fills("abcde", 4, "abcd", "e")
        self.fills("abcd abcd", 4, "abcd", "abcd")

    def test_several_times_as_long(self):
        self.fills("abcdefgh", 4, "abcd", "efgh")
        self.fills("abcdefghi", 4, "abcd", "efgh", "i")
        self.fills("abcdefghijkl", 4, "abcd", "efgh", "ijkl")

    def test_a_longer_one_behind_something(self):
        self.fills("x abcdef", 4, "x", "abcd", "ef")
        self.fills("xx abcde", 4, "xx", "abcd", "e")

    def test_what_comes_behind_its_last_piece(self):
        self.fills("abcde f", 4, "abcd", "e f")
        self.fills("abcde fg h", 4, "abcd", "e fg", "h")
        self.fills("abcde fgh", 4, "abcd", "e", "fgh")
        self.fills("abcdefgh i", 4, "abcd", "efgh", "i")
        self.fills("abcde fghij k", 4, "abcd", "e", "fghi", "j k")

    def test_no_words(self):
        self.assertEqual(lines_of([], 4), [])
        for text in ("", " ", "\n", "  \n \n"):
            self.fills(text, 4)

    def test_a_wide_below_one(self):
        for wide in (1, 0, -1, -50, -10 ** 19):
            self.fills("ab c", wide, "a", "b", "c")
        self.fills("ab c", 10 ** 19, "ab c")


class Blanks(Lines):
    def test_rows_of_blanks_and_line_feeds(self):
        for row in (" ", "\n", "  ", " \n", "\n ", "\n\n", "   \n\n  "):
            self.fills(f"a{row}b", 9, "a b")
            self.fills(f"{row}a{row}b{row}", 9, "a b")
            self.fills(f"{row}a", 9, "a")
            self.fills(f"a{row}", 9, "a")

    def test_a_line_ends_without_its_blank(self):
        self.fills("ab  cd", 2, "ab", "cd")
        self.fills("ab cd ", 5, "ab cd")

    def test_other_signs_part_nothing(self):
        self.fills("a-b,c.d", 20, "a-b,c.d")
        self.fills("a-b", 2, "a-", "b")


class Nodes(unittest.TestCase):
    def tells(self, parts, wide, *lines):
        told = [line and [(node, "".join(sign for sign, other in line if other == node)) for node in sorted(
            {node for _, node in line})] for line in lines_of(signs(*parts), wide)]
        self.assertEqual(told, [list(line) for line in lines])

    def test_a_word_goes_over_nodes(self):
        self.tells([(1, "ab"), (3, "cd")], 4, [(1, "ab"), (3, "cd")])
        self.tells([(1, "ab"), (3, "cd")], 3, [(1, "ab"), (3, "c")], [(3, "d")])
        self.tells([(1, "x ab"), (3, "cd")], 5, [(1, "x")], [(1, "ab"), (3, "cd")])
        self.tells([(1, "a"), (3, "b"), (4, "c")], 2, [(1, "a"), (3, "b")], [(4, "c")])
        self.tells([(1, "abc"), (3, "d"), (4, "ef")], 2, [(1, "ab")], [(1, "c"), (3, "d")], [(4, "ef")])

    def test_a_blank_is_of_the_first_sign_that_parted(self):
        self.tells([(1, "a "), (3, "b")], 9, [(1, "a "), (3, "b")])
        self.tells([(1, "a"), (3, " b")], 9, [(1, "a"), (3, " b")])
        self.tells([(1, "a "), (3, " b")], 9, [(1, "a "), (3, "b")])
        self.tells([(1, "a"), (2, "\n"), (3, " b")], 9, [(1, "a"), (2, " "), (3, "b")])
        self.tells([(1, "a"), (2, "  "), (3, " "), (4, "b")], 9, [(1, "a"), (2, " "), (4, "b")])
        self.tells([(1, " "), (2, "a"), (3, " "), (4, "\nb")], 9, [(2, "a"), (3, " "), (4, "b")])

    def test_the_blank_between_lines_is_none(self):
        self.tells([(1, "a"), (2, " "), (3, "b")], 2, [(1, "a")], [(3, "b")])

    def test_a_blank_put_is_a_blank(self):
        self.assertEqual(lines_of([("a", 1), ("\n", 2), ("b", 3)], 3), [[("a", 1), (" ", 2), ("b", 3)]])

    def test_one_sign_a_node(self):
        told = lines_of([(sign, node) for node, sign in enumerate("ab cde f")], 4)
        self.assertEqual(told, [[("a", 0), ("b", 1)], [("c", 3), ("d", 4), ("e", 5)], [("f", 7)]])

    def test_any_numbers(self):
        self.assertEqual(lines_of([("a", 9), ("b", 2), ("c", 9)], 9), [[("a", 9), ("b", 2), ("c", 9)]])


class Handed(unittest.TestCase):
    def test_by_names(self):
        self.assertEqual(lines_of(wide=1, signs=[("a", 1), ("b", 2)]), [[("a", 1)], [("b", 2)]])
        self.assertEqual(lines_of([("a", 1)], wide=1), [[("a", 1)]])

    def test_what_is_handed_in_stays(self):
        handed = signs((1, "ab cd"), (2, " e"))
        before = list(handed)
        told = lines_of(handed, 3)
        told[0].append(("x", 9))
        told.clear()
        self.assertEqual(handed, before)
        self.assertEqual(len(lines_of(handed, 3)), 3)


if __name__ == "__main__":
    unittest.main()
