import unittest

from hoarseheath import words


class Words(unittest.TestCase):
    def check(self, told, number):
        self.assertIs(type(told), int)
        self.assertEqual(told, number)

    def test_callers(self):
        self.check(words.CALLERS, 8)

    def test_ways(self):
        self.check(words.WAYS, 10)

    def test_beats(self):
        self.check(words.BEATS, 6)

    def test_rest(self):
        self.check(words.REST, 24)


if __name__ == "__main__":
    unittest.main()
