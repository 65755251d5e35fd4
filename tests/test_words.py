import unittest

from freshpage.words import is_word, plain_signs, written_sign

WHOLE = {"&lt;": "<", "&gt;": ">", "&amp;": "&", "&quot;": '"'}


class Words(unittest.TestCase):
    def test_words(self):
        for word in ("a", "z", "page", "a-", "a-b", "a--b", "abcdefghijkl", "a-----------", "cap-click"):
            self.assertIs(is_word(word), True, word)

    def test_no_signs_and_too_many(self):
        self.assertIs(is_word(""), False)
        self.assertIs(is_word("abcdefghijkl"), True)
        self.assertIs(is_word("abcdefghijklm"), False)
        self.assertIs(is_word("a" * 5000), False)

    def test_a_letter_is_first(self):
        for signs in ("-", "-a", "--", "1a"):
            self.assertIs(is_word(signs), False, signs)

    def test_other_signs(self):
        for sign in "AZ059 \n_.<>&\"'`{@/!~":
            for signs in (sign, sign + "a", "a" + sign, "a" + sign + "b"):
                self.assertIs(is_word(signs), False, signs)


class WrittenSign(unittest.TestCase):
    def test_only_two_signs_are_written(self):
        self.assertEqual(written_sign("<"), "&lt;")
        self.assertEqual(written_sign("&"), "&amp;")
        for signs in ("", ">", '"', "a b\n", "~!", "lt;"):
            self.assertEqual(written_sign(signs), signs)

    def test_beside_others(self):
        self.assertEqual(written_sign("a<b&&c>\"d\"<"), "a&lt;b&amp;&amp;c>\"d\"&lt;")
        self.assertEqual(written_sign("<&<"), "&lt;&amp;&lt;")

    def test_what_is_written_is_written_again(self):
        self.assertEqual(written_sign("&lt;"), "&amp;lt;")
        self.assertEqual(written_sign("&amp;quot;"), "&amp;amp;quot;")


class PlainSigns(unittest.TestCase):
    def test_each_whole(self):
        for written, sign in WHOLE.items():
            self.assertEqual(plain_signs(written), sign)
            self.assertEqual(plain_signs(written * 3), sign * 3)
            self.assertEqual(plain_signs("a" + written + "b"), "a" + sign + "b")

    def test_each_beside_each(self):
        for one, sign in WHOLE.items():
            for other, second in WHOLE.items():
                self.assertEqual(plain_signs(one + other), sign + second)

    def test_each_broken(self):
        for written in WHOLE:
            for k in range(len(written)):
                broken = written[:k] + written[k + 1:]
                self.assertEqual(plain_signs(broken), broken)
                self.assertEqual(plain_signs(written[:k]), written[:k])
            for broken in (written.upper(), written.replace("&", "& "), written.replace(";", " ;")):
                self.assertEqual(plain_signs(broken), broken)

    def test_one_within_another(self):
        for written, sign in WHOLE.items():
            for k in range(1, len(written)):
                for inner, plain in WHOLE.items():
                    signs = written[:k] + inner + written[k:]
                    self.assertEqual(plain_signs(signs), written[:k] + plain + written[k:])

    def test_each_is_read_once(self):
        for written in WHOLE:
            self.assertEqual(plain_signs("&amp;" + written[1:]), written)
        self.assertEqual(plain_signs("&amp;amp;lt;"), "&amp;lt;")

    def test_signs_that_are_not_written(self):
        for signs in ("", "&", ";", "<>\"&\n", "&apos;", "&#60;", "&nbsp;"):
            self.assertEqual(plain_signs(signs), signs)

    def test_what_was_written_is_plain_again(self):
        for signs in ("", "a<b", "&&<<", "&lt;", "&amp;lt;", "<&>\"", "&quot;\n"):
            self.assertEqual(plain_signs(written_sign(signs)), signs)


if __name__ == "__main__":
    unittest.main()
