import unittest

from tokenwall import errors
from tokenwall.errors import (Endless, NoHoard, NoMove, NoNet, NoPlace, NoText, Stuck, TokenError, TooBig)

REFUSALS = [NoNet, NoHoard, NoMove, NoPlace, Endless, TooBig, NoText, Stuck]


class ErrorClasses(unittest.TestCase):
    def test_token_error_is_a_value_error(self):
        self.assertEqual(TokenError.__bases__, (ValueError,))

    def test_each_refusal_stands_right_under_token_error(self):
        for refusal in REFUSALS:
            self.assertEqual(refusal.__bases__, (TokenError,), refusal)

    def test_none_stands_under_another(self):
        for one in REFUSALS:
            for other in REFUSALS:
                self.assertEqual(issubclass(one, other), one is other, (one, other))

    def test_they_bear_their_names(self):
        for refusal in REFUSALS + [TokenError]:
            self.assertIs(getattr(errors, refusal.__name__), refusal)

    def test_each_can_be_taken_as_token_error_and_value_error(self):
        for refusal in REFUSALS:
            with self.assertRaises(TokenError):
                raise refusal(0)
            with self.assertRaises(ValueError):
                raise refusal(0)

    def test_stuck_has_at(self):
        for at in (0, 1, 7, 10 ** 20):
            self.assertEqual(Stuck(at).at, at)

    def test_each_stuck_has_its_own_at(self):
        one = Stuck(1)
        other = Stuck(2)
        self.assertEqual((one.at, other.at), (1, 2))


if __name__ == "__main__":
    unittest.main()
