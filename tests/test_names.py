"""Promise 2: is_name and is_integer."""

from twinbegun.programs import is_integer, is_name
from tests.checks import ODD, Checks, nested


class Names(Checks):
    def test_names(self):
        for value in ["a", "z", "on", "ab", "abc", "amoun", "ones", "on", "mount", "abcdef", "zzzzzz", "amoumt", "eno"]:
            self.assertIs(is_name(value), True, value)
        for letter in "abcdefghijklmnopqrstuvwxyz":
            self.assertIs(is_name(letter), True, letter)
            self.assertIs(is_name("abcde" + letter), True, letter)

    def test_lengths(self):
        for length in range(20):
            self.assertIs(is_name("q" * length), 1 <= length <= 6, length)

    def test_reserved_words(self):
        self.assertIs(is_name("amount"), False)
        self.assertIs(is_name("one"), False)

    def test_each_other_character_at_each_place(self):
        others = [chr(code) for code in range(32, 127) if not chr(code).islower()] + ["\n"]
        for other in others:
            for word in [other, other + "a", "a" + other, "a" + other + "b", "abcde" + other, "abcdef" + other]:
                self.assertIs(is_name(word), False, repr(word))

    def test_other_values(self):
        for value in ODD + [("a",), ["a"], ("a", "b"), ["a", "b", "c"], (), nested(tuple, 10, "a")]:
            self.assertIs(is_name(value), False, value)

    def test_by_name(self):
        self.assertIs(is_name(value="abc"), True)
        self.assertIs(is_integer(value=3, least=1, most=5), True)
        self.assertIs(is_integer(most=2, least=1, value=3), False)


class Integers(Checks):
    def test_both_ends_and_one_beyond(self):
        for least, most in [(0, 0), (1, 20), (-1000, 1000), (-10 ** 12, 10 ** 12), (5, 6), (-10 ** 599, 10 ** 599)]:
            self.assertIs(is_integer(least, least, most), True)
            self.assertIs(is_integer(most, least, most), True)
            self.assertIs(is_integer((least + most) // 2, least, most), True)
            self.assertIs(is_integer(least - 1, least, most), False)
            self.assertIs(is_integer(most + 1, least, most), False)

    def test_no_integer_from_a_greater_one_to_a_less_one(self):
        for value in (0, 1, 2, 3):
            self.assertIs(is_integer(value, 2, 1), False)

    def test_true_and_false_are_no_integers(self):
        for value in (True, False):
            self.assertIs(is_integer(value, 0, 1), False)
            self.assertIs(is_integer(value, -10, 10), False)

    def test_other_values(self):
        for value in ODD + ["5", "abc", (1,), [1], (1, 2)]:
            expected = type(value) is int and -(10 ** 12) <= value <= 10 ** 12
            self.assertIs(is_integer(value, -(10 ** 12), 10 ** 12), expected, value)
