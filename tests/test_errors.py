import unittest

from hoarseheath import errors

BASES = {
    "NoCaller": LookupError,
    "NoWay": LookupError,
    "NoDeed": LookupError,
    "There": LookupError,
    "BadPlan": ValueError,
    "BadBeats": ValueError,
    "BadRow": ValueError,
    "Unlike": ValueError,
    "Gone": ValueError,
    "TooMany": OverflowError,
    "Endless": OverflowError,
    "Hoarse": RuntimeError,
    "Apart": RuntimeError,
    "Tied": RuntimeError,
}


class Errors(unittest.TestCase):
    def each(self):
        return [(getattr(errors, name), base) for name, base in BASES.items()]

    def test_each_is_straight_under_its_base(self):
        for made, base in self.each():
            self.assertEqual(made.__bases__, (base,))

    def test_each_is_of_its_own_name_and_file(self):
        for name in BASES:
            made = getattr(errors, name)
            self.assertEqual((made.__name__, made.__module__), (name, "hoarseheath.errors"))

    def test_none_is_under_another(self):
        for made, _ in self.each():
            for name in BASES:
                other = getattr(errors, name)
                self.assertEqual(issubclass(made, other), made is other)

    def test_what_is_the_one_field(self):
        for made, _ in self.each():
            for what in ("bell", "", 7, 0, -1, None, "callers", ("a", 1)):
                self.assertEqual(vars(made(what)), {"what": what})
                self.assertIs(type(made(what).what), type(what))

    def test_what_by_name(self):
        for made, _ in self.each():
            self.assertEqual(vars(made(what="bell")), {"what": "bell"})

    def test_one_is_caught_by_its_own_name_and_by_its_base(self):
        for made, base in self.each():
            for caught in (made, base):
                with self.assertRaises(caught) as refused:
                    raise made("bell")
                self.assertIs(type(refused.exception), made)
                self.assertEqual(refused.exception.what, "bell")

    def test_two_keep_each_its_own(self):
        for made, _ in self.each():
            one, other = made("bell"), made("hill")
            self.assertEqual((one.what, other.what), ("bell", "hill"))

    def test_none_is_made_without_what(self):
        for made, _ in self.each():
            with self.assertRaises(TypeError):
                made()


if __name__ == "__main__":
    unittest.main()
