import unittest

from freshpage import errors

BASES = {
    "NoNode": LookupError, "NotTag": RuntimeError, "NotFormed": ValueError, "NoPlace": IndexError,
    "NoWidth": ValueError, "NoMark": KeyError, "NoProperty": KeyError, "TooLarge": RuntimeError,
}


class Errors(unittest.TestCase):
    def test_each_stands_right_under_its_base(self):
        for name, base in BASES.items():
            self.assertEqual(getattr(errors, name).__bases__, (base,), name)

    def test_none_stands_under_another(self):
        classes = [getattr(errors, name) for name in BASES]
        for one in classes:
            for other in classes:
                self.assertEqual(issubclass(one, other), one is other)

    def test_there_are_no_others(self):
        found = [name for name, kept in vars(errors).items() if isinstance(kept, type)]
        self.assertEqual(sorted(found), sorted(BASES))

    def test_they_are_raised_as_they_are(self):
        for name in BASES:
            kind = getattr(errors, name)
            with self.assertRaises(kind):
                raise kind("x")

    def test_too_large_has_the_most(self):
        for most in (120, 20, 4000, 60):
            error = errors.TooLarge(most)
            self.assertEqual(error.most, most)
            self.assertIs(type(error.most), int)

    def test_too_large_wants_one_argument(self):
        with self.assertRaises(TypeError):
            errors.TooLarge()
        with self.assertRaises(TypeError):
            errors.TooLarge(1, 2)


if __name__ == "__main__":
    unittest.main()
